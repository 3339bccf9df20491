import PyProof.Rows.All
import Wide.All
import OpenK.AllK
import Wide.FinOn
import Lean
import PyProof.EqAt
import PyProof.EqKinds
import PyProof.TupleCall
import PyProof.NeKinds
import PyProof.ListRange
import OpenK.KOwn
import KE.KTryMore
import KE.KSorted
import KE.KSort
import PyProof.Rows.SortWalk
import PyProof.SeqI3
import PyProof.Rows.SumAny
import PyProof.Rows.SeqMore2
import KE.KListMore
import PyProof.Rows.Range3
import PyProof.Cells
import KE.KTabLook
import PyProof.SliceStr2
import PyProof.StrBlockI
import PyProof.Rows.FStr
import PyProof.Rows.StrNews2
import PyProof.ListStr
import PyProof.Rows.StrStep
import PyProof.Rows.StrJoinStr
import PyProof.AutoSeq1
import PyProof.ListRange
import KE.KRevIter
import PyProof.CollectIter
import PyProof.FactsAll.range_iterator_1
import PyProof.Rows.RuleM_int
import PyProof.FactsAll.int_6
import OpenK.AllK
import PySem.Challenge.RW_braidcomb_k32_one_form_by_exchanges
open PySem.W (instObj methodObj lookIn plainGet hasDictIn findIn handedIn plainGet_of isFn plainOver takerIn Looks makesIn typeIn emptyDict keepIn mroIn kitOne kia_one kitx_list kitx_tuple kitx_dict callWith_K methodCall_KW cellsFrom_some codeIn nsIn mg_of mg_none_of kIn_of)
open Nat (lt_of_lt_of_le ne_of_lt le_trans ne_of_gt zero_le le_of_eq lt_succ_self le_succ lt_trans sub_zero le_total min_eq_left min_eq_right sub_self reduceAdd reduceSub reduceEqDiff ble lt_or_ge)
open List (range mem_filter mem_range mem_cons_self mem_cons_of_mem mem_cons mem_append mem_append_left getElem?_set_self getElem?_set_ne mem_append_right size_toArray length_cons map_cons length_map append_nil nodup_cons of_mem_zip replicate length length_take getElem?_append_right getElem?_replicate getElem?_append_left getElem?_map mem_of_getElem? length_append length_replicate map_nil length_drop length_set reverse_cons replicate_succ flatten_cons foldl foldl_cons length_singleton length_reverse nil_append Pairwise find?_cons any_cons cons_append length_nil getElem_of_mem getElem?_eq_getElem dropLast_eq_take drop_zero drop_eq_getElem_cons drop_length lookup_cons not_mem_nil getElem?_reverse range' range'_succ length_range map_drop map_map map_append take_length take_of_length_le take_nil map_set map_reverse replicate_zero getElem_idxOf mem_reverse reverse_perm mem_singleton range_succ flatten_append mem_map mem_of_mem_take take_succ reverse map pairwise_map Nodup getElem?_eq_none sum_append sum_cons Perm length_zipIdx map_congr_left map_dropLast mem_of_getLast? reverse_append foldl_append reverse_reverse getElem_mem mem_replicate map_id mem_of_mem_drop)
open Array (toList)
open Int (toNat_natCast emod_nonneg emod_lt_of_pos)
open Option (getD_none map_some isSome_map)
open PySem.F (slot_dict_get entry_dict_get plainAttrs_list slot_list_pop type_list_pop slot_range_reversed slot_dict_len)
open Classical (propDecidable byContradiction)
open Bool (and_eq_true false_eq_true or_eq_true not_eq_true')
noncomputable section
set_option Elab.async false
set_option linter.all false
set_option maxRecDepth 100000
namespace L2
open PySem PySem.Spec PyProof.Rows
abbrev Key:=Sum Int Str
def x6:Key->Value->Bool
 |.inl k,v=>Value.isInt k v
 |.inr x,v=>Value.isStrOf x v
def X7(w:World):Key->Int
 |.inl k=>hashInt k
 |.inr x=>hashStr w x
theorem cO:∀{k:Key}{v:Value},x6 k v=true->(∃i t,k=Sum.inl i/\v=Value.int i t)\/(∃x t,k=Sum.inr x/\v=Value.str x t)
 |.inl i,v,h=>by
  obtain⟨t,e⟩:=Value.isInt_shape (k:=i) (v:=v) h
  exact .inl ⟨i,t,rfl,e⟩
 |.inr x,v,h=>by
  obtain⟨t,e⟩:=Value.isStrOf_shape (x:=x) (v:=v) h
  exact .inr ⟨x,t,rfl,e⟩
theorem E6(i:Int)(t:Tok):x6 (.inl i) (.int i t)=true:=by simp[x6,Value.isInt]
theorem E7(x:Str)(t:Tok):x6 (.inr x) (.str x t)=true:=by simp[x6,Value.isStrOf]
theorem PY(a b:Int):decide ((Sum.inl a:Key)=Sum.inl b)=(a==b):=by
 by_cases e:a=b
 ·subst e;simp
 ·have h:¬(Sum.inl a:Key)=Sum.inl b:=fun q=>e (Sum.inl.inj q)
  rw[decide_eq_false h]
  exact(beq_eq_false_iff_ne.mpr e).symm
theorem PZ(a b:Str):decide ((Sum.inr a:Key)=Sum.inr b)=decide (a=b):=by
 by_cases e:a=b
 ·subst e;simp
 ·have h:¬(Sum.inr a:Key)=Sum.inr b:=fun q=>e (Sum.inr.inj q)
  rw[decide_eq_false h,decide_eq_false e]
theorem P1(a:Int)(b:Str):decide ((Sum.inl a:Key)=Sum.inr b)=false:=decide_eq_false (fun q=>nomatch q)
theorem P4(a:Str)(b:Int):decide ((Sum.inr a:Key)=Sum.inl b)=false:=decide_eq_false (fun q=>nomatch q)
def di(prog:Program)(w:World):PySem.KeyKind prog w Key where
 is:=x6
 hash:=X7 w
 inj:=fun v a b ha hb=>by
  rcases cO ha with⟨i,t,rfl,rfl⟩|⟨x,t,rfl,rfl⟩
  ·rcases cO hb with⟨j,u,rfl,e⟩|⟨y,u,rfl,e⟩
   ·injection e with e1 _;rw[e1]
   ·exact nomatch e
  ·rcases cO hb with⟨j,u,rfl,e⟩|⟨y,u,rfl,e⟩
   ·exact nomatch e
   ·injection e with e1 _;rw[e1]
 byValue:=fun k v h=>by
  rcases cO h with⟨i,t,rfl,rfl⟩|⟨x,t,rfl,rfl⟩<;>rfl
 pyHash:=fun hv h=>by
  rcases cO hv with⟨i,t,rfl,rfl⟩|⟨x,t,rfl,rfl⟩
  ·exact wpAny_pyHash_int h
  ·exact wpAny_pyHash_str h
 eqBool:=fun hu hv h=>by
  rcases cO hu with⟨i,t,rfl,rfl⟩|⟨x,t,rfl,rfl⟩
  ·rcases cO hv with⟨j,u,rfl,rfl⟩|⟨y,u,rfl,rfl⟩
   ·rw[PY]at h;exact wpAny_eqBool_int h
   ·rw[P1]at h;exact SeqAt.EqAt.int_str i t y u _ _ _ _ h
  ·rcases cO hv with⟨j,u,rfl,rfl⟩|⟨y,u,rfl,rfl⟩
   ·rw[P4]at h;exact SeqAt.EqAt.str_int x t j u _ _ _ _ h
   ·rw[PZ]at h;exact wpAny_eqBool_str h
 «strs»:=fun k x t v h=>by
  rcases cO h with⟨i,u,rfl,e⟩|⟨y,u,rfl,e⟩
  ·exact nomatch e
  ·injection e with e1 _
   subst e1
   cases v<;>rfl
theorem zW(prog:Program)(w:World)(i:Int)(t:Tok):(di prog w).is (.inl i) (.int i t)=true:=E6 i t
theorem zX(prog:Program)(w:World)(x:Str)(t:Tok):(di prog w).is (.inr x) (.str x t)=true:=E7 x t
end L2
namespace L2
open PySem PySem.Spec PyProof.Rows
inductive V where
 |non|bl (b:Bool)|int (i:Int)|str (x:Str)|GB (b:Array UInt8)|P5 (b:UInt64)|ref (a:Addr)|ty (n:String)
 deriving DecidableEq
def RelV:V->Value->Prop
 |.non,u=>u=Value.none
 |.bl b,u=>u=Value.bool b
 |.int i,u=>∃t,u=Value.int i t
 |.str x,u=>∃t,u=Value.str x t
 |.GB b,u=>∃t,u=Value.bytes b t
 |.P5 b,u=>∃t,u=Value.float b t
 |.ref a,u=>u=Value.ref a
 |.ty n,u=>u=Value.type n
abbrev Vals:List V->List Value->Prop:=Paired RelV
theorem Vals.length {xs:List V}{us:List Value}(r:Vals xs us):xs.length=us.length:=Paired.length r
theorem Vals.get:∀{xs:List V}{us:List Value}{i:Nat}{x:V},Vals xs us->xs[i]?=some x->∃u,us[i]?=some u/\RelV x u
 |_,_,_,_,.nil,e=>by simp at e
 |_,_,0,_,.cons r _,e=>by simp at e;subst e;exact⟨_,rfl,r⟩
 |_,_,i+1,x,.cons _ t,e=>by
  obtain⟨u,h1,h2⟩:=Vals.get (i:=i) (x:=x) t (by simpa using e)
  exact⟨u,by simpa using h1,h2⟩
theorem Vals.set {x:V}{u:Value}(r:RelV x u):∀{xs:List V}{us:List Value}(i:Nat),Vals xs us->Vals (xs.set i x) (us.set i u)
 |_,_,_,.nil=>.nil
 |_,_,0,.cons _ t=>.cons r t
 |_,_,i+1,.cons q t=>.cons q (Vals.set r i t)
theorem Vals.append:∀{xs ys:List V}{us ws:List Value},Vals xs us->Vals ys ws->Vals (xs++ys) (us++ws)
 |_,_,_,_,.nil,s=>s
 |_,_,_,_,.cons r t,s=>.cons r (Vals.append t s)
theorem Vals.take:∀{xs:List V}{us:List Value}(n:Nat),Vals xs us->Vals (xs.take n) (us.take n)
 |_,_,0,_=>.nil
 |_,_,_+1,.nil=>.nil
 |_,_,n+1,.cons r t=>.cons r (Vals.take n t)
theorem Vals.drop:∀{xs:List V}{us:List Value}(n:Nat),Vals xs us->Vals (xs.drop n) (us.drop n)
 |_,_,0,r=>r
 |_,_,_+1,.nil=>.nil
 |_,_,n+1,.cons _ t=>Vals.drop n t
def nG:Option V->Option Value->Prop
 |some v,some u=>RelV v u
 |none,none=>True
 |_,_=>False
def KV{κ:Type}:List (κ×V)->List (κ×Value)->Prop:=Paired fun(p:κ×V)(q:κ×Value)=>p.1=q.1/\RelV p.2 q.2
def kV:Key->V
 |.inl i=>.int i
 |.inr x=>.str x
inductive HO where
 |lst (xs:List V)
 |tup (xs:List V)
 |dK (kvs:List (Key×V))|dT (kvs:List (List Key×V))
 |set (S:Int->Bool) (n:Nat)
 |ins (C dx:Addr) (fs:List (Str×V))
 |own (x:Addr)
 |xd (fs:List (Str×V))
 |met (f x:Addr)
 |X8 (lo hi:Int)
 |xB (o:Obj) (u:HO)
 |P6 (ps:Array Value)
 |ext (φ:Heap->Prop)
abbrev Hp:=Addr->Option HO
def upd(H:Hp)(a:Addr)(o:HO):Hp:=fun b=>if b=a then some o else H b
theorem ar{H:Hp}{a:Addr}{o:HO}:upd H a o a=some o:=by unfold upd;rw[if_pos rfl]
theorem ai{H:Hp}{a b:Addr}{o:HO}(h:b≠a):upd H a o b=H b:=by unfold upd;rw[if_neg h]
theorem bM{H:Hp}{a b:Addr}{o u:HO}(h:H a=some o)(h':H b=some u)(d:o≠u):a≠b:=by
 intro e;subst e;rw[h]at h';exact d (Option.some.inj h')
theorem au{H:Hp}{a b:Addr}{o:HO}(h:H a=some o)(h':H b=none):a≠b:=by
 intro e;subst e;rw[h]at h';cases h'
section
variable(P:Program)(w:World)
def dg(H:Hp)(h:Heap)(a:Addr):HO->Prop
 |.lst xs=>xs.length<=sizeLine/\∃(its:List Value)(n:Nat),Vals xs its/\h.get? a=some {cls:=.type "list",data:=.seq its.toArray n}
 |.tup xs=>xs.length<=sizeLine/\∃its:List Value,Vals xs its/\IsTup h a its.toArray
 |.dK kvs=>kvs.length<=sizeLine/\(a==sysModules)=false/\∃vs,KV kvs vs/\h.DictOf (di P w) a vs
 |.dT kvs=>kvs.length<=sizeLine/\(a==sysModules)=false/\∃xs:List (List Key×Addr×Value),
   Paired (fun(p:List Key×V)(q:List Key×Addr×Value)=>p.1=q.1/\H q.2.1=some (.tup (p.1.map kV))/\RelV p.2 q.2.2) kvs xs/\
   ∃o es ep,h.get? a=some o/\o.ExactDict/\o.data=.dict es ep/\es.toList=xs.map (entryOfKey (tupleKind (di P w)))/\(xs.map (·.1)).Nodup
 |.set S n=>h.SetOf (intKind P w) a S n
 |.ins C dx fs=>H dx=some (.own a)/\fs.length<=1000/\dx≠a/\h.get? a=some (instObj C dx)/\
   ∃mA,h.Ns1 dx mA/\(∀f,nG (fs.lookup f) (mA f))/\PySem.Within mA (fs.map (·.1))
 |.own _=>∃o,h.get? a=some o
 |.xd fs=>∃mA,h.Ns1 a mA/\∀f,nG (fs.lookup f) (mA f)
 |.X8 lo hi=>∃t u v,h.get? a=some {cls:=.type "range",data:=.fields #[.int lo t,.int hi u,.int 1 v]}
 |.xB o u=>h.get? a=some o/\dg H h a u
 |.P6 ps=>h.get? a=some {cls:=.none,data:=.fields ps}
 |.met f x=>h.get? a=some (methodObj (.ref f) (.ref x))
 |.ext φ=>φ h/\(∃o,h.get? a=some o)/\∀h1 h2:Heap,φ h1->(∀o,h1.get? a=some o->h2.get? a=some o)->φ h2
def pU(H:Hp)(h:Heap):Prop:=∀a o,H a=some o->dg P w H h a o
end
section
variable{P:Program}{w:World}{H H':Hp}{h h':Heap}{a:Addr}{o:HO}
theorem dg.lt (x:dg P w H h a o):a<h.objs.size:=by
 cases o with
 |lst xs=>obtain⟨_,_,_,_,e⟩:=x;exact Heap.lt_size e
 |tup xs=>obtain⟨_,_,_,p⟩:=x;exact p.lt
 |dK kvs=>obtain⟨_,_,_,_,o,_,_,e,_⟩:=x;exact Heap.lt_size e
 |dT kvs=>obtain⟨_,_,_,_,o,_,_,e,_⟩:=x;exact Heap.lt_size e
 |set S n=>obtain⟨o,_,_,_,e,_⟩:=x;exact Heap.lt_size e
 |ins C dx fs=>obtain⟨_,_,_,e,_⟩:=x;exact Heap.lt_size e
 |own y=>obtain⟨_,e⟩:=x;exact Heap.lt_size e
 |xd fs=>obtain⟨_,⟨_,_,_,e,_⟩,_⟩:=x;exact Heap.lt_size e
 |X8 lo hi=>obtain⟨_,_,_,e⟩:=x;exact Heap.lt_size e
 |xB ob u=>obtain⟨e,_⟩:=x;exact Heap.lt_size e
 |P6 ps=>exact Heap.lt_size (show h.get? a=some _ from x)
 |met f y=>exact Heap.lt_size (show h.get? a=some _ from x)
 |ext φ=>obtain⟨_,⟨_,e⟩,_⟩:=x;exact Heap.lt_size e
theorem Paired.P7 {α β:Type}{F G:α->β->Prop}:∀{l₁:List α}{l₂:List β},Paired F l₁ l₂->(∀a b,F a b->G a b)->Paired G l₁ l₂
 |_,_,.nil,_=>.nil
 |_,_,.cons r t,f=>.cons (f _ _ r) (Paired.P7 t f)
theorem dg.Bx (x:dg P w H h a o)(k:∀b u,(b=a\/H b=some (.own a))->h.get? b=some u->h'.get? b=some u)
  (ho:∀b,H b=some (.own a)->H' b=some (.own a))(ht:∀b xs,H b=some (.tup xs)->H' b=some (.tup xs)):dg P w H' h' a o:=by
 induction o with
 |lst xs=>obtain⟨z,its,n,r,e⟩:=x;exact⟨z,its,n,r,k _ _ (.inl rfl) e⟩
 |tup xs=>obtain⟨z,its,r,ob,e,c⟩:=x;exact⟨z,its,r,ob,k _ _ (.inl rfl) e,c⟩
 |dK kvs=>obtain⟨z,y,vs,r,ob,es,ep,e,c⟩:=x;exact⟨z,y,vs,r,ob,es,ep,k _ _ (.inl rfl) e,c⟩
 |dT kvs=>
  obtain⟨z,y,xs,r,ob,es,ep,e,c⟩:=x
  exact⟨z,y,xs,Paired.P7 r fun p q z=>⟨z.1,ht _ _ z.2.1,z.2.2⟩,ob,es,ep,k _ _ (.inl rfl) e,c⟩
 |set S n=>obtain⟨ob,es,ep,t,e,c⟩:=x;exact⟨ob,es,ep,t,k _ _ (.inl rfl) e,c⟩
 |ins C dx fs=>
  obtain⟨d,z,ne,e,mA,⟨od,es,ep,e2,c⟩,r⟩:=x
  exact⟨ho _ d,z,ne,k _ _ (.inl rfl) e,mA,⟨od,es,ep,k _ _ (.inr d) e2,c⟩,r⟩
 |own y=>obtain⟨ob,e⟩:=x;exact⟨ob,k _ _ (.inl rfl) e⟩
 |xd fs=>obtain⟨mA,⟨od,es,ep,e,c⟩,r⟩:=x;exact⟨mA,⟨od,es,ep,k _ _ (.inl rfl) e,c⟩,r⟩
 |X8 lo hi=>obtain⟨t,u,v,e⟩:=x;exact⟨t,u,v,k _ _ (.inl rfl) e⟩
 |xB ob u ih=>obtain⟨e,q⟩:=x;exact⟨k _ _ (.inl rfl) e,ih q⟩
 |P6 ps=>
  have e:h.get? a=some {cls:=.none,data:=.fields ps}:=x
  show h'.get? a=some {cls:=.none,data:=.fields ps}
  exact k a _ (.inl rfl) e
 |met f y=>
  have e:h.get? a=some (methodObj (.ref f) (.ref y)):=x
  show h'.get? a=some (methodObj (.ref f) (.ref y))
  exact k a _ (.inl rfl) e
 |ext φ=>obtain⟨p,⟨o,e⟩,st⟩:=x;exact⟨st _ _ p fun o q=>k _ _ (.inl rfl) q,⟨o,k _ _ (.inl rfl) e⟩,st⟩
theorem pU.lt (x:pU P w H h)(e:H a=some o):a<h.objs.size:=(x a o e).lt
theorem pU.fresh (x:pU P w H h)(e:h.objs.size<=a):H a=none:=by
 cases q:H a with
 |none=>rfl
 |some u=>exact absurd (lt_of_lt_of_le (x.lt q) e) (Nat.lt_irrefl _)
theorem pU.kept (x:pU P w H h)(k:∀b u,h.get? b=some u->h'.get? b=some u):pU P w H h':=fun a o e=>
 (x a o e).Bx (fun b u _ q=>k b u q) (fun _ q=>q) fun _ _ q=>q
theorem pU.laid (x:pU P w H h)(k:∀b u,h.get? b=some u->h'.get? b=some u)(hp:h.objs.size<=a)(new:dg P w (upd H a o) h' a o):pU P w (upd H a o) h':=fun b u e=>by
 have hn:=x.fresh hp
 by_cases hb:b=a
 ·subst hb;rw[ar]at e;cases e;exact new
 ·rw[ai hb]at e
  exact(x b u e).Bx (fun c v _ q=>k c v q) (fun c q=>by rw[ai (au q hn)];exact q) fun c xs q=>by rw[ai (au q hn)];exact q
end
def Rd(H:Hp)(a:Addr)(u:HO):Prop:=H a=some u\/∃o,H a=some (.xB o u)
theorem Rd.ok {P:Program}{w:World}{H:Hp}{h:Heap}{a:Addr}{u:HO}(r:Rd H a u)(x:pU P w H h):dg P w H h a u:=by
 rcases r with r|⟨o,r⟩
 ·exact x a u r
 ·obtain⟨_,q⟩:=x a _ r
  exact q
def Uu:Option HO->Prop
 |some (.lst _)=>True
 |some (.dK _)=>True
 |some (.dT _)=>True
 |some (.set _ _)=>True
 |some (.ins _ _ _)=>True
 |some (.ext _)=>True
 |_=>False
section
variable{P:Program}{w:World}{H:Hp}{h h':Heap}{x e:Addr}{o':HO}
theorem pU.write (ok:pU P w H h)(mu:Uu (H x))(he:e=x\/H e=some (.own x))(k:∀b u,b≠e->h.get? b=some u->h'.get? b=some u)(TR:∃u,h'.get? e=some u)
  (new:dg P w (upd H x o') h' x o'):pU P w (upd H x o') h':=fun b u q=>by
 have Uv:∀c y,H c=some (.own y)->c≠x:=fun c y r z=>by subst z;rw[r]at mu;exact mu
 have X9:∀c xs,H c=some (.tup xs)->c≠x:=fun c xs r z=>by subst z;rw[r]at mu;exact mu
 by_cases hb:b=x
 ·subst hb;rw[ar]at q;cases q;exact new
 ·rw[ai hb]at q
  by_cases P8:b=e
  ·have q':H b=some (.own x):=by
    rcases he with z|z
    ·exact absurd (P8.trans z) hb
    ·rw[P8];exact z
   rw[q]at q';cases q'
   obtain⟨v,hv⟩:=TR
   exact⟨v,by rw[P8];exact hv⟩
  ·refine(ok b u q).Bx (fun c v hc r=>k c v ?_ r) (fun c r=>by rw[ai (Uv c b r)];exact r) fun c xs r=>by rw[ai (X9 c xs r)];exact r
   rcases hc with rfl|hc
   ·exact P8
   ·rintro rfl
    rcases he with z|z
    ·exact Uv c b hc z
    ·rw[hc]at z;cases z;exact hb rfl
end
structure Un(fs ex:List Addr)(H H':Hp)(h h':Heap):Prop where
 keep:∀b o,h.get? b=some o->H b=none->b∉fs->b∉ex->h'.get? b=some o
 slot:∀b o,h.get? b=some o->H b=none->b∈fs->b∉ex->∃sl,h'.get? b=some {o with slots:=sl}
 free:∀b o,h.get? b=some o->H b=none->b∉ex->H' b=none
 there:∀b o,h.get? b=some o->b∉ex->∃o',h'.get? b=some o'
 tups:∀b xs,H b=some (.tup xs)->H' b=some (.tup xs)
 yM:∀b o u,H b=some (.xB o u)->H' b=some (.xB o u)
 zY:∀b ps,H b=some (.P6 ps)->∃more,H' b=some (.P6 (ps++more))
section
variable{fs fs' ex Xd:List Addr}{H H1 H2:Hp}{h h1 h2 h':Heap}{a x e:Addr}{o:HO}
theorem Un.any (u:Un fs ex H H1 h h1){b:Addr}{ob:Obj}(q:h.get? b=some ob)(n:H b=none)(hx:b∉ex):∃sl,h1.get? b=some {ob with slots:=sl}:=by
 by_cases hb:b∈fs
 ·exact u.slot b ob q n hb hx
 ·exact⟨ob.slots,u.keep b ob q n hb hx⟩
theorem Un.kept (k:∀b u,h.get? b=some u->h'.get? b=some u):Un fs ex H H h h':=
 ⟨fun b ob q _ _ _=>k b ob q,fun b ob q _ _ _=>⟨ob.slots,k b ob q⟩,fun _ _ _ n _=>n,fun b ob q _=>⟨ob,k b ob q⟩,fun _ _ q=>q,fun _ _ _ q=>q,fun _ ps q=>⟨#[],by rw[q];simp⟩⟩
theorem Un.refl:Un fs ex H H h h:=Un.kept fun _ _ q=>q
theorem Un.laid (k:∀b u,h.get? b=some u->h'.get? b=some u)(hp:h.objs.size<=a)(hn:H a=none):Un fs ex H (upd H a o) h h' where
 keep:=fun b u q _ _ _=>k b u q
 slot:=fun b u q _ _ _=>⟨u.slots,k b u q⟩
 free:=fun b u q n _=>by rw[ai (ne_of_lt (lt_of_lt_of_le (Heap.lt_size q) hp))];exact n
 there:=fun b u q _=>⟨u,k b u q⟩
 tups:=fun b xs q=>by rw[ai (au q hn)];exact q
 yM:=fun b u xs q=>by rw[ai (au q hn)];exact q
 zY:=fun b ps q=>⟨#[],by rw[ai (au q hn),q];simp⟩
theorem Un.write (mu:Uu (H x))(he:e=x\/H e=some (.own x))(k:∀b u,b≠e->h.get? b=some u->h'.get? b=some u)(TR:∃u,h'.get? e=some u):Un fs ex H (upd H x o) h h':=by
 have hx:∀b,H b=none->b≠x:=fun b n z=>by subst z;rw[n]at mu;exact mu
 have hb:∀b,H b=none->b≠e:=fun b n z=>by
  subst z
  rcases he with r|r
  ·exact hx b n r
  ·rw[n]at r;cases r
 have hm:∀b u,H b=some u->¬Uu (some u)->b≠x:=fun b u q nm z=>by subst z;rw[q]at mu;exact nm mu
 refine⟨fun b u q n _ _=>k b u (hb b n) q,fun b u q n _ _=>⟨u.slots,k b u (hb b n) q⟩,fun b u q n _=>by rw[ai (hx b n)];exact n,fun b u q _=>?_,
  fun b xs q=>by rw[ai (hm b _ q fun z=>z)];exact q,fun b u xs q=>by rw[ai (hm b _ q fun z=>z)];exact q,fun b ps q=>⟨#[],by rw[ai (hm b _ q fun z=>z),q];simp⟩⟩
 by_cases P8:b=e
 ·subst P8;exact TR
 ·exact⟨u,k b u P8 q⟩
end
def Xe(h:Heap)(H:Hp):List Addr:=(range h.objs.size).filter fun a=>(H a).isSome
def yN(h:Heap)(H:Hp):Heap:=PySem.W.hideAll h (Xe h H)
theorem E8(h:Heap)(H:Hp):(yN h H).objs.size=h.objs.size:=PySem.W.hideAll_size _ _
theorem GW{h:Heap}{H:Hp}{b:Addr}{o:Obj}(e:h.get? b=some o)(n:H b=none):(yN h H).get? b=some o:=
 PySem.W.hideAll_get _ e fun hm=>by
  have q:(H b).isSome=true:=(mem_filter.mp hm).2
  rw[n]at q;simp at q
theorem Lj{h:Heap}{H:Hp}{b:Addr}{o:Obj}(e:(yN h H).get? b=some o):h.get? b=some o/\H b=none:=by
 have e':h.get? b=some o:=PySem.W.of_hideAll (Xe h H) e
 refine⟨e',?_⟩
 cases q:H b with
 |none=>rfl
 |some x=>
  have hm:b∈Xe h H:=mem_filter.mpr ⟨mem_range.mpr (Heap.lt_size e'),by simp[q]⟩
  have z:(yN h H).get? b=none:=PySem.W.hideAll_none (Xe h H) hm
  rw[z]at e;cases e
def Ll(g h:Heap)(L:Addr):List (Addr×Obj):=(range h.objs.size).filterMap fun a=>if a=L\/(g.get? a).isSome=true then none else(h.get? a).map fun o=>(a,o)
def rest(g h:Heap)(L d:Addr):List (Addr×Obj):=(Ll g h L).filter fun p=>decide (p.1≠d)
end L2
namespace L2
open PySem PySem.Spec PyProof.Rows
structure Mod(K:PySem.W.Frag)(mg:Str->Option Value)(base:Heap):Prop where
 Uw:K.In base
 glob:base.Ns mainGlobals mg
 blt:∃mb,base.Ns builtinsNs mb/\∀x:Str,x≠"__name__"->mb x=bootBuiltins x
 nolimit:base.NoLimit
structure Cx where
 prog:Program
 w:World
 K:PySem.W.Frag
 mg:Str->Option Value
 base:Heap
 A:Around
 N:List Str
 s₀:Shared
 H₀:Hp
 env:Env
 outer:List Env
 stack:List Env
 ex:List Addr
 fn:Str->Bool
 calm:Bool
 pn:List (Addr×Obj)
 xe:Value->Shared->Prop
def Bt(l:List Env):List Addr:=l.filterMap (·.frame)
abbrev Cx.fs (X:Cx):List Addr:=Bt X.outer
def x8(sc:Scope)(x:Str):Prop:=sc.names.lookup x=some .local\/sc.names.lookup x=some .cell\/sc.names.lookup x=some .free
def Loc(sc:Scope)(x:Str):Prop:=sc.names.lookup x=some .local\/sc.names.lookup x=some .cell
def Look(env:Env)(h:Heap)(m:Str->Option Value)(x:Str)(u:Value):Prop:=
 (env.kindOf x=some .local/\m x=some u)\/((env.kindOf x=some .cell\/env.kindOf x=some .free)/\∃c,env.cells.lookup x=some c/\h.IsCell c (some u))
structure Cx.Ok (X:Cx):Prop where
 mod:Mod X.K X.mg X.base
 kind:X.env.scope.kind=.function
 glob:X.env.globals=mainGlobals
 blt:X.env.builtins=builtinsNs
 above:X.s₀.heap.objs.size<=X.env.locals
 inj:∀x y c,X.env.cells.lookup x=some c->X.env.cells.lookup y=some c->x=y
 has:∀x,(X.env.kindOf x=some .cell\/X.env.kindOf x=some .free)->∃c,X.env.cells.lookup x=some c
 NK:∀x c,X.fn x=true->X.env.cells.lookup x=some c->X.s₀.heap.objs.size<=c
 hd:X.calm=true->X.A.handled=none
 frames:X.A.frames=some X.stack
 Ux:X.stack=X.outer\/(X.stack=X.env::X.outer/\X.env.frame=some X.env.locals)
 Uy:∀b∈X.ex,b≠X.env.locals/\∀x c,X.env.cells.lookup x=some c->c≠b
 bs:∀b o,X.base.get? b=some o->X.s₀.heap.get? b=some o/\X.H₀ b=none
 K0:X.base.objs.size<=X.s₀.heap.objs.size
 E9:∀b o,X.base.get? b=some o->b∉X.ex
 By:∀b∈X.ex,b∉X.fs
 sE:X.s₀.heap.FunFrames X.base X.outer
 NN:∀b∈X.fs,X.H₀ b=none
structure Inv(X:Cx)(pins:List (Addr×Obj))(σ:List (Option V))(H:Hp)(s:Shared):Prop where
 ok:X.Ok
 os:s.os=X.s₀.os
 bare:AllBare s.gens
 base:Un X.fs X.ex X.H₀ H X.s₀.heap s.heap
 loc:∃m,s.heap.Ns X.env.locals m/\∀(i:Nat)(x:Str)(v:V),X.N[i]?=some x->σ[i]?=some (some v)->x8 X.env.scope x->∃u,RelV v u/\Look X.env s.heap m x u
 cell:∀x c,X.env.cells.lookup x=some c->∃v,s.heap.IsCell c v
 free:H X.env.locals=none
 p4:∀x c,X.env.cells.lookup x=some c->H c=none
 pin:∀p∈X.pn++pins,s.heap.get? p.1=some p.2/\H p.1=none/\p.1≠X.env.locals/\p.1∉X.fs/\∀v,p.2.data≠.cell v
 hok:pU X.prog X.w H s.heap
 len:σ.length=X.N.length
section
variable{X:Cx}{pins:List (Addr×Obj)}{σ:List (Option V)}{H H':Hp}{s:Shared}{h':Heap}
theorem Cx.Ok.Yb (ok:X.Ok){b:Addr}{o:Obj}(e:X.base.get? b=some o):b∉X.fs:=fun hb=>by
 have:=(ok.sE.mem hb).1
 rw[e]at this;cases this
theorem Inv.bs (I:Inv X pins σ H s):∀b o,X.base.get? b=some o->s.heap.get? b=some o/\H b=none:=fun b o e=>
 ⟨I.base.keep b o (I.ok.bs b o e).1 (I.ok.bs b o e).2 (I.ok.Yb e) (I.ok.E9 b o e),I.base.free b o (I.ok.bs b o e).1 (I.ok.bs b o e).2 (I.ok.E9 b o e)⟩
theorem Inv.bk (I:Inv X pins σ H s):∀b o,X.base.get? b=some o->s.heap.get? b=some o:=fun b o e=>(I.bs b o e).1
theorem Inv.mod (I:Inv X pins σ H s):Mod X.K X.mg X.base:=I.ok.mod
theorem Inv.sF (I:Inv X pins σ H s):X.K.In s.heap:=I.ok.mod.Uw.keeps I.bk
theorem Inv.lt (I:Inv X pins σ H s):X.env.locals<s.heap.objs.size:=let⟨_,hn,_⟩:=I.loc;hn.lt
theorem Inv.sz (I:Inv X pins σ H s):X.s₀.heap.objs.size<=s.heap.objs.size:=le_trans I.ok.above (Nat.le_of_lt I.lt)
theorem Inv.Yc (I:Inv X pins σ H s){a:Addr}(h:s.heap.objs.size<=a):a∉X.fs:=fun hb=>by
 obtain⟨_,o,ho,_⟩:=I.ok.sE.mem hb
 exact absurd (lt_of_lt_of_le (Heap.lt_size ho) (le_trans I.sz h)) (Nat.lt_irrefl _)
theorem Inv.P9 (I:Inv X pins σ H s):∀x c,X.env.cells.lookup x=some c->c≠X.env.locals:=fun x c e z=>by
 obtain⟨v,o,ho,hd⟩:=I.cell x c e
 obtain⟨m,⟨o',es,ep,Qa,Ln,_⟩,_⟩:=I.loc
 rw[z,Qa]at ho;cases ho;rw[Ln]at hd;cases hd
theorem Inv.sE (I:Inv X pins σ H s):s.heap.FunFrames X.base X.outer:=by
 have all:∀(l:List Env),(∀b∈Bt l,b∈X.fs)->X.s₀.heap.FunFrames X.base l->s.heap.FunFrames X.base l:=by
  intro l
  induction l with
  |nil=>intro _ _;trivial
  |cons env r ih=>
   intro hs hl
   obtain⟨hk,⟨L,o,hf,hn,ho,hd⟩,hr⟩:=hl
   have hL:L∈X.fs:=hs L (by unfold Bt;rw[List.filterMap_cons,hf];exact mem_cons_self)
   obtain⟨sl,e⟩:=I.base.slot L o ho (I.ok.NN L hL) hL fun z=>I.ok.By L z hL
   exact⟨hk,⟨L,_,hf,hn,e,hd⟩,ih (fun b hb=>hs b (by unfold Bt;rw[List.filterMap_cons,hf];exact mem_cons_of_mem _ hb)) hr⟩
 exact all X.outer (fun _ hb=>hb) I.ok.sE
theorem Inv.stack (I:Inv X pins σ H s):s.heap.FunFrames X.base X.stack:=by
 rcases I.ok.Ux with e|⟨e,hf⟩
 ·rw[e];exact I.sE
 ·rw[e]
  obtain⟨m,hn,_⟩:=I.loc
  refine .cons (by rw[I.ok.kind];decide) hf hn ?_ I.sE
  exact Heap.get?_none_of_le (le_trans I.ok.K0 I.ok.above)
theorem Inv.yO (I:Inv X pins σ H s):∀b∈Bt X.stack,b∈X.env.locals::X.fs:=fun b hb=>by
 rcases I.ok.Ux with e|⟨e,hf⟩
 ·rw[e]at hb;exact mem_cons_of_mem _ hb
 ·rw[e]at hb
  unfold Bt at hb
  rw[List.filterMap_cons,hf]at hb
  exact hb
theorem Inv.CW (I:Inv X pins σ H s):∀b∈Bt X.stack,H b=none:=fun b hb=>by
 rcases mem_cons.mp (I.yO b hb)with e|hb
 ·rw[e];exact I.free
 ·obtain⟨_,o,ho,_⟩:=I.ok.sE.mem hb
  exact I.base.free b o ho (I.ok.NN b hb) fun z=>I.ok.By b z hb
theorem Inv.step {g':Array GenState}{t':Nat}{d':Drawn}{ch:List Addr}(I:Inv X pins σ H s)
  (hch:∀b∈ch,(b∈X.ex\/X.s₀.heap.objs.size<=b)/\b≠X.env.locals/\(∀x c,X.env.cells.lookup x=some c->c≠b)/\∀p∈X.pn++pins,p.1≠b)
  (keep:∀b o,b≠X.env.locals->b∉X.fs->b∉ch->s.heap.get? b=some o->H b=none->h'.get? b=some o)
  (slot:∀b o,b≠X.env.locals->b∈X.fs->b∉ch->s.heap.get? b=some o->H b=none->∃sl,h'.get? b=some {o with slots:=sl})(free:∀b o,b∉ch->s.heap.get? b=some o->H b=none->H' b=none)
  (there:∀b o,b∉ch->s.heap.get? b=some o->∃o',h'.get? b=some o')
  (tups:∀b xs,H b=some (.tup xs)->H' b=some (.tup xs))(yM:∀b o u,H b=some (.xB o u)->H' b=some (.xB o u))(zY:∀b ps,H b=some (.P6 ps)->∃more,H' b=some (.P6 (ps++more)))
  (ns:∀m,s.heap.Ns X.env.locals m->h'.Ns X.env.locals m)(hok:pU X.prog X.w H' h')(hg:AllBare g'):
  Inv X pins σ H' {s with heap:=h',gens:=g',drawn:=d',toks:=t'}:=by
 have neL:∀b o,X.s₀.heap.get? b=some o->b≠X.env.locals:=fun b o e=>ne_of_lt (lt_of_lt_of_le (Heap.lt_size e) I.ok.above)
 have Xf:∀b o,X.s₀.heap.get? b=some o->b∉X.ex->b∉ch:=fun b o e hx hb=>by
  rcases(hch b hb).1 with z|z
  ·exact hx z
  ·exact absurd (lt_of_lt_of_le (Heap.lt_size e) z) (Nat.lt_irrefl _)
 have cellK:∀x c,X.env.cells.lookup x=some c->∀v,s.heap.IsCell c v->h'.IsCell c v:=fun x c e v ⟨o,ho,hd⟩=>by
  have Uz:c∉ch:=fun z=>(hch c z).2.2.1 x c e rfl
  by_cases hc:c∈X.fs
  ·obtain⟨sl,q⟩:=slot c o (I.P9 x c e) hc Uz ho (I.p4 x c e)
   exact⟨_,q,hd⟩
  ·exact⟨o,keep c o (I.P9 x c e) hc Uz ho (I.p4 x c e),hd⟩
 refine⟨I.ok,I.os,hg,⟨fun b o e n hb hx=>?_,fun b o e n hb hx=>?_,fun b o e n hx=>?_,fun b o e hx=>?_,fun b xs e=>tups b xs (I.base.tups b xs e),fun b o xs e=>yM b o xs (I.base.yM b o xs e),fun b ps e=>?_⟩,?_,fun x c e=>?_,?_,fun x c e=>?_,fun p hp=>?_,hok,I.len⟩
 ·exact keep b o (neL b o e) hb (Xf b o e hx) (I.base.keep b o e n hb hx) (I.base.free b o e n hx)
 ·obtain⟨sl,e1⟩:=I.base.slot b o e n hb hx
  obtain⟨sl',e2⟩:=slot b _ (neL b o e) hb (Xf b o e hx) e1 (I.base.free b o e n hx)
  exact⟨sl',e2⟩
 ·obtain⟨o',e1⟩:=I.base.there b o e hx
  exact free b o' (Xf b o e hx) e1 (I.base.free b o e n hx)
 ·obtain⟨o',e1⟩:=I.base.there b o e hx
  exact there b o' (Xf b o e hx) e1
 ·obtain⟨m1,e1⟩:=I.base.zY b ps e
  obtain⟨m2,e2⟩:=zY b _ e1
  exact⟨m1++m2,by rw[e2,Array.append_assoc]⟩
 ·obtain⟨m,hn,hl⟩:=I.loc
  refine⟨m,ns m hn,fun i x v e1 e2 e3=>?_⟩
  obtain⟨u,r,l⟩:=hl i x v e1 e2 e3
  refine⟨u,r,?_⟩
  rcases l with l|⟨k,c,e,z⟩
  ·exact .inl l
  ·exact .inr ⟨k,c,e,cellK x c e _ z⟩
 ·obtain⟨v,z⟩:=I.cell x c e
  exact⟨v,cellK x c e v z⟩
 ·obtain⟨m,⟨o,_,_,ho,_⟩,_⟩:=I.loc
  exact free _ o (fun z=>(hch _ z).2.1 rfl) ho I.free
 ·obtain⟨v,o,ho,hd⟩:=I.cell x c e
  exact free c o (fun z=>(hch c z).2.2.1 x c e rfl) ho (I.p4 x c e)
 ·obtain⟨e,n,ne,nf,d⟩:=I.pin p hp
  have Uz:p.1∉ch:=fun z=>(hch p.1 z).2.2.2 p hp rfl
  exact⟨keep p.1 p.2 ne nf Uz e n,free p.1 p.2 Uz e n,ne,nf,d⟩
theorem Inv.un {t':Nat}(I:Inv X pins σ H s)(u:Un X.fs [] H H' s.heap h')(hok:pU X.prog X.w H' h'):Inv X pins σ H' {s with heap:=h',toks:=t'}:=by
 obtain⟨m,⟨o,es,ep,ho,r⟩,_⟩:=id I.loc
 obtain⟨sl,hL⟩:=u.any ho I.free (by simp)
 exact I.step (g':=s.gens) (d':=s.drawn) (ch:=[]) (fun _ z=>nomatch z) (fun b o _ hb _ e n=>u.keep b o e n hb (by simp)) (fun b o _ hb _ e n=>u.slot b o e n hb (by simp)) (fun b o _ e n=>u.free b o e n (by simp)) (fun b o _ e=>u.there b o e (by simp)) u.tups u.yM u.zY (fun m' hm=>by
  obtain⟨o',Yd,Ye,Qa,r'⟩:=hm
  rw[ho]at Qa;cases Qa
  exact⟨_,Yd,Ye,hL,r'⟩) hok I.bare
theorem Inv.call {g':Array GenState}{t':Nat}{d':Drawn}{ch:List Addr}(I:Inv X pins σ H s)(u:Un (Bt X.stack) ch H H' s.heap h')(hok:pU X.prog X.w H' h')(hg:AllBare g')
  (hch:∀b∈ch,(b∈X.ex\/X.s₀.heap.objs.size<=b)/\b≠X.env.locals/\(∀x c,X.env.cells.lookup x=some c->c≠b)/\∀p∈X.pn++pins,p.1≠b):
  Inv X pins σ H' {s with heap:=h',gens:=g',drawn:=d',toks:=t'}:=by
 obtain⟨m,⟨o,es,ep,ho,r⟩,_⟩:=id I.loc
 obtain⟨sl,hL⟩:=u.any ho I.free fun z=>(hch _ z).2.1 rfl
 exact I.step (ch:=ch) hch (fun b o hL hb hc e n=>u.keep b o e n (fun z=>(mem_cons.mp (I.yO b z)).elim hL hb) hc) (fun b o _ _ hc e n=>u.any e n hc) (fun b o hc e n=>u.free b o e n hc) (fun b o hc e=>u.there b o e hc) u.tups u.yM u.zY (fun m' hm=>by
  obtain⟨o',Yd,Ye,Qa,r'⟩:=hm
  rw[ho]at Qa;cases Qa
  exact⟨_,Yd,Ye,hL,r'⟩) hok hg
theorem Inv.turned {t':Nat}{it:Addr}(I:Inv X pins σ H s)(k:∀b o,b≠it->s.heap.get? b=some o->h'.get? b=some o)(hn:H it=none)(hL:it≠X.env.locals)
  (h1:it∈X.ex\/X.s₀.heap.objs.size<=it)(h2:∀x c,X.env.cells.lookup x=some c->c≠it)(h3:∀p∈X.pn++pins,p.1≠it):Inv X pins σ H {s with heap:=h',toks:=t'}:=by
 have nit:∀b u,H b=some u->b≠it:=fun b u e z=>by rw[z,hn]at e;cases e
 refine I.step (g':=s.gens) (d':=s.drawn) (ch:=[it]) (fun b hb=>?_) (fun b o _ _ hc e _=>k b o (fun z=>hc (by simp[z])) e) (fun b o _ _ hc e _=>⟨o.slots,k b o (fun z=>hc (by simp[z])) e⟩) (fun _ _ _ _ n=>n)
  (fun b o hc e=>⟨o,k b o (fun z=>hc (by simp[z])) e⟩) (fun _ _ e=>e) (fun _ _ _ e=>e) (fun b ps e=>⟨#[],by rw[e];simp⟩) (fun m hm=>?_) (fun b u e=>?_) I.bare
 ·have e:b=it:=by simpa using hb
  subst e
  exact⟨h1,hL,h2,h3⟩
 ·obtain⟨o,es,ep,ho,r⟩:=hm
  exact⟨o,es,ep,k _ o (Ne.symm hL) ho,r⟩
 ·refine(I.hok b u e).Bx (fun c v hc q=>k c v ?_ q) (fun _ q=>q) fun _ _ q=>q
  rcases hc with z|z
  ·rw[z];exact nit b u e
  ·exact nit c _ z
theorem Inv.tok (I:Inv X pins σ H s)(t:Nat):Inv X pins σ H {s with toks:=t}:=I.un (h':=s.heap) (t':=t) Un.refl I.hok
theorem Inv.kept {t':Nat}(I:Inv X pins σ H s)(k:∀b u,s.heap.get? b=some u->h'.get? b=some u):Inv X pins σ H {s with heap:=h',toks:=t'}:=I.un (Un.kept k) (I.hok.kept k)
theorem Inv.laid {a:Addr}{o:HO}{t':Nat}(I:Inv X pins σ H s)(k:∀b u,s.heap.get? b=some u->h'.get? b=some u)(hp:s.heap.objs.size<=a)(new:dg X.prog X.w (upd H a o) h' a o):
  Inv X pins σ (upd H a o) {s with heap:=h',toks:=t'}:=I.un (Un.laid k hp (I.hok.fresh hp)) (I.hok.laid k hp new)
theorem Inv.write {x e:Addr}{o:HO}{t':Nat}(I:Inv X pins σ H s)(mu:Uu (H x))(he:e=x\/H e=some (.own x))(k:∀b u,b≠e->s.heap.get? b=some u->h'.get? b=some u)(TR:∃u,h'.get? e=some u)
  (new:dg X.prog X.w (upd H x o) h' x o):Inv X pins σ (upd H x o) {s with heap:=h',toks:=t'}:=I.un (Un.write mu he k TR) (I.hok.write mu he k TR new)
theorem Inv.CY {NP:List (Addr×Obj)}(I:Inv X pins σ H s)(h:∀p∈NP,s.heap.get? p.1=some p.2/\H p.1=none/\p.1≠X.env.locals/\p.1∉X.fs/\∀v,p.2.data≠.cell v):Inv X NP σ H s:=
 ⟨I.ok,I.os,I.bare,I.base,I.loc,I.cell,I.free,I.p4,fun p hp=>(mem_append.mp hp).elim (fun z=>I.pin p (mem_append_left _ z)) (h p),I.hok,I.len⟩
theorem zZ{N:List Str}(hN:N.Nodup){i j:Nat}{x:Str}(a:N[i]?=some x)(b:N[j]?=some x):i=j:=by
 obtain⟨h1,e1⟩:=List.getElem?_eq_some_iff.mp a
 obtain⟨h2,e2⟩:=List.getElem?_eq_some_iff.mp b
 exact(List.getElem_inj hN).mp (e1.trans e2.symm)
theorem Fb{M:Model}{A:Around}{E:Value->Shared->Prop}{i:Nat}{x:Str}{v:V}{u:Value}{Q:Unit->Shared->Prop}(I:Inv X pins σ H s)(hN:X.N.Nodup)(hi:X.N[i]?=some x)(hx:Loc X.env.scope x)(r:RelV v u)
  (h:∀s',Inv X pins (σ.set i (some v)) H s'->(∃a,Heap.SameBut a s.heap s'.heap/\(a=X.env.locals\/X.env.cells.lookup x=some a))->Q () s')(hf:X.fn x=true\/X.env.scope.names.lookup x=some .local:=by first|exact .inl rfl|exact .inr rfl|assumption):wpAny M A (storeName X.env x u) Q E s:=by
 obtain⟨m,hn,hl⟩:=id I.loc
 have hcls:(X.env.scope.kind==.class||(X.env.scope.kind==.module&&X.env.locals !=X.env.globals))=false:=by rw[I.ok.kind];rfl
 have hiσ:i<σ.length:=by rw[I.len];exact(List.getElem?_eq_some_iff.mp hi).1
 have P9:=I.P9
 have tracked:∀{a:Addr}{h':Heap},(∃o,s.heap.get? a=some o/\H a=none)->Heap.SameBut a s.heap h'->pU X.prog X.w H h':=fun{a h'} ha hs b ob e=>by
  obtain⟨_,_,hfree⟩:=ha
  refine(I.hok b ob e).Bx (fun c w' hc q=>(hs.2 c ?_).trans q) (fun _ q=>q) fun _ _ q=>q
  rintro rfl
  rcases hc with rfl|hc
  ·rw[hfree]at e;cases e
  ·rw[hfree]at hc;cases hc
 rcases hx with hk|hk
 ·refine wpAny_storeName_local hk hn (fun h' hn' hs=>?_) hcls
  obtain⟨oL,_,_,hoL,_⟩:=id hn
  refine h _ ⟨I.ok,I.os,I.bare,⟨fun b o e n hb hx=>?_,fun b o e n hb hx=>?_,I.base.free,fun b o e hx=>?_,I.base.tups,I.base.yM,I.base.zY⟩,⟨_,hn',fun j y v' e1 e2 e3=>?_⟩,fun y c e=>?_,I.free,I.p4,fun p hp=>?_,tracked ⟨oL,hoL,I.free⟩ hs,by simpa using I.len⟩ ⟨_,hs,.inl rfl⟩
  ·exact(hs.2 b (ne_of_lt (lt_of_lt_of_le (Heap.lt_size e) I.ok.above))).trans (I.base.keep b o e n hb hx)
  ·obtain⟨sl,e1⟩:=I.base.slot b o e n hb hx
   exact⟨sl,(hs.2 b (ne_of_lt (lt_of_lt_of_le (Heap.lt_size e) I.ok.above))).trans e1⟩
  ·obtain⟨o',e1⟩:=I.base.there b o e hx
   exact⟨o',(hs.2 b (ne_of_lt (lt_of_lt_of_le (Heap.lt_size e) I.ok.above))).trans e1⟩
  ·by_cases hj:j=i
   ·subst hj
    rw[hi]at e1;cases e1
    rw[getElem?_set_self hiσ]at e2
    cases e2
    exact⟨u,r,.inl ⟨hk,by simp⟩⟩
   ·rw[getElem?_set_ne (Ne.symm hj)]at e2
    obtain⟨u',r',q⟩:=hl j y v' e1 e2 e3
    refine⟨u',r',?_⟩
    rcases q with⟨k,e⟩|⟨k,c,e,z⟩
    ·refine .inl ⟨k,?_⟩
     have:y≠x:=fun e=>hj (zZ hN e1 (e▸hi))
     simp[this,e]
    ·exact .inr ⟨k,c,e,z.sameBut hs (P9 y c e)⟩
  ·obtain⟨w',z⟩:=I.cell y c e
   exact⟨w',z.sameBut hs (P9 y c e)⟩
  ·obtain⟨e,n,ne,nf,d⟩:=I.pin p hp
   exact⟨(hs.2 p.1 ne).trans e,n,ne,nf,d⟩
 ·have hfn:X.fn x=true:=by
   rcases hf with z|z
   ·exact z
   ·rw[z]at hk;cases hk
  obtain⟨c,hc⟩:=I.ok.has x (.inl hk)
  obtain⟨w',z⟩:=I.cell x c hc
  refine wpAny_storeName_cell I.ok.kind hk hc z (fun h' GX hs=>?_)
  obtain⟨oc,hoc,Yg⟩:=id z
  refine h {s with heap:=h'} ⟨I.ok,I.os,I.bare,⟨fun b o e n hb hx=>?_,fun b o e n hb hx=>?_,I.base.free,fun b o e hx=>?_,I.base.tups,I.base.yM,I.base.zY⟩,⟨m,hn.sameBut hs (Ne.symm (P9 x c hc)),fun j y v' e1 e2 e3=>?_⟩,fun y c' e=>?_,I.free,I.p4,fun p hp=>?_,tracked ⟨oc,hoc,I.p4 x c hc⟩ hs,by simpa using I.len⟩ ⟨c,hs,.inr hc⟩
  ·exact(hs.2 b (ne_of_lt (lt_of_lt_of_le (Heap.lt_size e) (I.ok.NK x c hfn hc)))).trans (I.base.keep b o e n hb hx)
  ·obtain⟨sl,e1⟩:=I.base.slot b o e n hb hx
   exact⟨sl,(hs.2 b (ne_of_lt (lt_of_lt_of_le (Heap.lt_size e) (I.ok.NK x c hfn hc)))).trans e1⟩
  ·obtain⟨o',e1⟩:=I.base.there b o e hx
   exact⟨o',(hs.2 b (ne_of_lt (lt_of_lt_of_le (Heap.lt_size e) (I.ok.NK x c hfn hc)))).trans e1⟩
  ·by_cases hj:j=i
   ·subst hj
    rw[hi]at e1;cases e1
    rw[getElem?_set_self hiσ]at e2
    cases e2
    exact⟨u,r,.inr ⟨.inl hk,c,hc,GX⟩⟩
   ·rw[getElem?_set_ne (Ne.symm hj)]at e2
    obtain⟨u',r',q⟩:=hl j y v' e1 e2 e3
    refine⟨u',r',?_⟩
    rcases q with q|⟨k,c',e,z'⟩
    ·exact .inl q
    ·refine .inr ⟨k,c',e,z'.sameBut hs ?_⟩
     rintro rfl
     exact hj (zZ hN e1 (I.ok.inj _ _ _ e hc▸hi))
  ·by_cases hcc:c'=c
   ·subst hcc;exact⟨_,GX⟩
   ·obtain⟨w2,z2⟩:=I.cell y c' e
    exact⟨w2,z2.sameBut hs hcc⟩
  ·obtain⟨e,n,ne,nf,d⟩:=I.pin p hp
   refine⟨(hs.2 p.1 ?_).trans e,n,ne,nf,d⟩
   intro q
   rw[q,hoc]at e
   have q':oc=p.2:=Option.some.inj e
   exact d w' (by rw[<-q'];exact Yg)
theorem vJ{M:Model}{A:Around}{E:Value->Shared->Prop}{i:Nat}{x:Str}{v:V}{u:Value}{Q:Unit->Shared->Prop}(I:Inv X pins σ H s)(hN:X.N.Nodup)(hi:X.N[i]?=some x)(hx:Loc X.env.scope x)(r:RelV v u)
  (h:∀s',Inv X pins (σ.set i (some v)) H s'->Q () s')(hf:X.fn x=true\/X.env.scope.names.lookup x=some .local:=by first|exact .inl rfl|exact .inr rfl|assumption):wpAny M A (storeName X.env x u) Q E s:=
 Fb I hN hi hx r (fun s' I' _=>h s' I') hf
theorem Inv.NQ {s':Shared}{ch:List Addr}(I:Inv X pins σ H s)(ho:s'.os=s.os)(u:Un (Bt X.stack) ch H H' s.heap s'.heap)(hok:pU X.prog X.w H' s'.heap)(hg:AllBare s'.gens)
  (hch:∀b∈ch,(b∈X.ex\/X.s₀.heap.objs.size<=b)/\b≠X.env.locals/\(∀x c,X.env.cells.lookup x=some c->c≠b)/\∀p∈X.pn++pins,p.1≠b):Inv X pins σ H' s':=by
 obtain⟨h',g',d',t',o'⟩:=s'
 have e:o'=s.os:=ho
 subst e
 exact I.call (g':=g') (t':=t') (d':=d') u hok hg hch
end
abbrev XK:=Value->Option Addr->Hp->Prop
abbrev St:=List (Option V)
abbrev VK:=V->Hp->Prop
abbrev TE:=St->Hp->VK->Prop
abbrev TT:=St->Hp->(Bool->Hp->Prop)->Prop
abbrev TA:=St->Hp->(List V->Hp->Prop)->Prop
structure Ends where
 nx:St->Hp->Prop
 rt:VK
 bk:St->Hp->Prop:=fun _ _=>False
 ct:St->Hp->Prop:=fun _ _=>False
abbrev TS:=Ends->St->Hp->Prop
def EP(X:Cx)(pins:List (Addr×Obj))(σ:St)(Q:VK)(u:Value)(s':Shared):Prop:=∃v H',Inv X pins σ H' s'/\RelV v u/\Q v H'
def TP(X:Cx)(pins:List (Addr×Obj))(σ:St)(Q:Bool->Hp->Prop)(b:Bool)(s':Shared):Prop:=∃H',Inv X pins σ H' s'/\Q b H'
def AP(X:Cx)(pins:List (Addr×Obj))(σ:St)(Q:List V->Hp->Prop)(us:List Value)(s':Shared):Prop:=∃vs H',Inv X pins σ H' s'/\Vals vs us/\Q vs H'
def SP(X:Cx)(pins:List (Addr×Obj))(D:Ends)(f:Flow)(s':Shared):Prop:=
 match f with
 |.next=>∃σ' H',Inv X pins σ' H' s'/\D.nx σ' H'
 |.brk=>∃σ' H',Inv X pins σ' H' s'/\D.bk σ' H'
 |.cont=>∃σ' H',Inv X pins σ' H' s'/\D.ct σ' H'
 |.ret u=>∃v σ' H',Inv X pins σ' H' s'/\RelV v u/\D.rt v H'
def PE(X:Cx)(e:Expr)(t:TE):Prop:=
 ∀(pins:List (Addr×Obj))(s:Shared)(σ:St)(H:Hp)(Q:VK),Inv X pins σ H s->t σ H Q->wpAny (model X.prog X.w) X.A (eval e X.env) (EP X pins σ Q) X.xe s
def PT(X:Cx)(e:Expr)(t:TT):Prop:=
 ∀(pins:List (Addr×Obj))(s:Shared)(σ:St)(H:Hp)(Q:Bool->Hp->Prop),Inv X pins σ H s->t σ H Q->wpAny (model X.prog X.w) X.A (isTrue e X.env (eval e X.env)) (TP X pins σ Q) X.xe s
def PW(X:Cx)(e:Expr)(t:TT):Prop:=
 ∀(whole:Sem Value)(pins:List (Addr×Obj))(s:Shared)(σ:St)(H:Hp)(Q:Bool->Hp->Prop),Inv X pins σ H s->t σ H Q->wpAny (model X.prog X.w) X.A (isTrue e X.env whole) (TP X pins σ Q) X.xe s
theorem PW.pt {X:Cx}{e:Expr}{t:TT}(h:PW X e t):PT X e t:=h _
def PA(X:Cx)(es:List Expr)(t:TA):Prop:=
 ∀(pos:Pos)(pins:List (Addr×Obj))(s:Shared)(σ:St)(H:Hp)(Q:List V->Hp->Prop),Inv X pins σ H s->t σ H Q->wpAny (model X.prog X.w) X.A (spliced (backTo pos (starEach es X.env))) (AP X pins σ Q) X.xe s
def PS(X:Cx)(st:Stmt)(t:TS):Prop:=
 ∀(pins:List (Addr×Obj))(s:Shared)(σ:St)(H:Hp)(D:Ends),Inv X pins σ H s->t D σ H->wpAny (model X.prog X.w) X.A (exec st X.env) (SP X pins D) X.xe s
def ql(X:Cx)(st:List Stmt)(t:TS):Prop:=
 ∀(pins:List (Addr×Obj))(s:Shared)(σ:St)(H:Hp)(D:Ends),Inv X pins σ H s->t D σ H->wpAny (model X.prog X.w) X.A (execs st X.env) (SP X pins D) X.xe s
theorem cj{α:Type}{t:Sem α}{Q Q':α->Shared->Prop}{M:Model}{A:Around}{E:Value->Shared->Prop}{s:Shared}(h:wpAny M A t Q E s)(hQ:∀a s,Q a s->Q' a s):wpAny M A t Q' E s:=wpAny_mono h hQ fun _ _ x=>x
end L2
namespace L2
open PySem PySem.Spec PyProof.Rows
section
variable{X:Cx}
def Lo(i:Nat):TE:=fun σ H Q=>∃v,σ[i]?=some (some v)/\Q v H
def tC(v:V):TE:=fun _ H Q=>Q v H
theorem ji{i:Nat}{x:Str}{pos:Pos}(hN:X.N[i]?=some x)(hv:x8 X.env.scope x)(hd:(x==("__debug__":Str))=false:=by decide)(hcd:(x==("__classdict__":Str))=false:=by decide):PE X (.Name x pos) (Lo i):=by
 intro pins s σ H Q I h
 obtain⟨v,e,h⟩:=h
 obtain⟨m,hn,hl⟩:=I.loc
 obtain⟨u,r,l⟩:=hl i x v hN e hv
 have fin:EP X pins σ Q u s:=⟨v,H,I,r,h⟩
 rcases l with⟨hk,hm⟩|⟨hk,c,hc,hcell⟩
 ·exact wpAny_Name (wpAny_loadName_local I.ok.kind hk hn hm fin) hd
 ·rcases hk with hk|hk
  ·exact wpAny_Name (wpAny_loadName_cell I.ok.kind hk hc hcell fin) hd
  ·exact wpAny_Name (wpAny_loadName_free I.ok.kind hk hc hcell fin hcd) hd
theorem gA{i j pos}:PE X (.Constant (.int i) j pos) (tC (.int i)):=fun _ _ _ H _ I h=>wpAny_Constant_int ⟨.int i,H,I.tok _,⟨_,rfl⟩,h⟩
theorem UA{b j pos}:PE X (.Constant (.bool b) j pos) (tC (.bl b)):=fun _ _ _ H _ I h=>Constant_bool ⟨.bl b,H,I,rfl,h⟩
theorem GY{j pos}:PE X (.Constant .none j pos) (tC .non):=fun _ _ _ H _ I h=>Constant_none ⟨.non,H,I,rfl,h⟩
theorem Qc{x j pos}:PE X (.Constant (.str x) j pos) (tC (.str x)):=fun _ _ _ H _ I h=>Calls.Constant_str ⟨.str x,H,I.tok _,⟨_,rfl⟩,h⟩
def Gl(X:Cx)(x:Str):Prop:=X.env.kindOf x=some .globalImplicit
theorem yP{E:Value->Shared->Prop}{pins:List (Addr×Obj)}{s:Shared}{σ:St}{H:Hp}{x:Str}{u:Value}{pos:Pos}{Q:Value->Shared->Prop}(I:Inv X pins σ H s)(hg:Gl X x)(hm:X.mg x=some u)(h:Q u s)
  (hd:(x==("__debug__":Str))=false:=by decide):wpAny (model X.prog X.w) X.A (eval (.Name x pos) X.env) Q E s:=
 Calls.Name_function_global I.ok.kind hg (Calls.loadGlobal_global (by rw[I.ok.glob];exact I.mod.glob.keeps I.bk) hm h) hd
theorem iD{E:Value->Shared->Prop}{pins:List (Addr×Obj)}{s:Shared}{σ:St}{H:Hp}{x:Str}{u:Value}{pos:Pos}{Q:Value->Shared->Prop}(I:Inv X pins σ H s)(hg:Gl X x)(hm:X.mg x=none)(hv:bootBuiltins x=some u)(h:Q u s)
  (hn:x≠"__name__":=by decide)(hd:(x==("__debug__":Str))=false:=by decide):wpAny (model X.prog X.w) X.A (eval (.Name x pos) X.env) Q E s:=by
 obtain⟨mb,h1,h2⟩:=I.mod.blt
 exact Calls.Name_function_global I.ok.kind hg (Calls.loadGlobal_builtin (by rw[I.ok.glob];exact I.mod.glob.keeps I.bk) hm (by rw[I.ok.blt];exact h1.keeps I.bk) ((h2 x hn).trans hv) h) hd
theorem Lp{x:Str}{v:V}{u:Value}{pos:Pos}(hg:Gl X x)(hm:X.mg x=some u)(r:RelV v u)(hd:(x==("__debug__":Str))=false:=by decide):PE X (.Name x pos) (tC v):=
 fun _ _ _ H _ I h=>yP I hg hm ⟨v,H,I,r,h⟩ hd
theorem Lq{x:Str}{v:V}{u:Value}{pos:Pos}(hg:Gl X x)(hm:X.mg x=none)(hv:bootBuiltins x=some u)(r:RelV v u)(hn:x≠"__name__":=by decide)(hd:(x==("__debug__":Str))=false:=by decide):PE X (.Name x pos) (tC v):=
 fun _ _ _ H _ I h=>iD I hg hm hv ⟨v,H,I,r,h⟩ hn hd
variable{a b:Expr}{ta tb:TE}{pos:Pos}
def PC(X:Cx)(op:CmpOp)(a b:Expr)(t:TE):Prop:=
 ∀(pins:List (Addr×Obj))(s:Shared)(σ:St)(H:Hp)(Q:VK),Inv X pins σ H s->t σ H Q->
  wpAny (model X.prog X.w) X.A (eval a X.env) (fun v s₁=>wpAny (model X.prog X.w) X.A (eval b X.env) (fun u s₂=>wpAny (model X.prog X.w) X.A (compareOp op v u) (EP X pins σ Q) X.xe s₂) X.xe s₁) X.xe s
theorem GZ(b:Expr){op:CmpOp}(h:op≠.In)(h2:op≠.NotIn):behindInMarks op b=false:=by
 have e1:(op==CmpOp.In)=false:=by cases op<;>first|rfl|exact absurd rfl h
 have e2:(op==CmpOp.NotIn)=false:=by cases op<;>first|rfl|exact absurd rfl h2
 cases b<;>simp[behindInMarks,e1,e2]
def tB(t:TE):TT:=fun σ H Q=>t σ H fun x H1=>∃c,x=.bl c/\Q c H1
theorem BA{op:CmpOp}{t:TE}(h:PC X op a b t)(h1:behindInMarks op b=false:=by first|exact GZ _ (by decide) (by decide)|rfl):PT X (.Compare a [op] [b] pos) (tB t):=by
 intro pins s σ H Q I hw
 refine wpAny_isTrue_Compare1 (cj (h pins s σ H _ I hw) fun v s1 h1=>cj h1 fun u s2 h2=>cj h2 fun c s3 ⟨x,H1,I1,r1,q1⟩=>?_) h1
 obtain⟨d,rfl,q⟩:=q1
 cases r1
 exact wpAny_truthy_bool ⟨H1,I1,q⟩
theorem Qd{e:Expr}{t:TE}(h:PE X e t)(he:∀whole,isTrue e X.env whole=(do let v<-whole;standAt e.pos;holding [v] (truthy v)):=by intro _;rfl):PT X e (tB t):=by
 intro pins s σ H Q I hw
 refine isTrue_plain (cj (h pins s σ H _ I hw) fun v s1 ⟨x,H1,I1,r1,q1⟩=>?_) (he _)
 obtain⟨d,rfl,q⟩:=q1
 cases r1
 exact wpAny_truthy_bool ⟨H1,I1,q⟩
variable{tA Xg:TT}{rest:List Expr}
def Yh(t u:TT):TT:=fun σ H Q=>t σ H fun c H1=>if c=true then u σ H1 Q else Q false H1
def tOr(t u:TT):TT:=fun σ H Q=>t σ H fun c H1=>if c=true then Q true H1 else u σ H1 Q
def Yi(t:TT):TT:=fun σ H Q=>t σ H fun c H1=>Q (!c) H1
theorem pw_and1(ha:PT X a tA):PW X (.BoolOp .And [a] pos) tA:=by
 intro wh pins s σ H Q I h
 refine isTrue_and (cj (ha pins s σ H Q I h) fun c s1 e=>?_)
 cases c with
 |true=>exact isTrue_and_nil e
 |false=>exact e
theorem pw_or1(ha:PT X a tA):PW X (.BoolOp .Or [a] pos) tA:=by
 intro wh pins s σ H Q I h
 refine isTrue_or (cj (ha pins s σ H Q I h) fun c s1 e=>?_)
 cases c with
 |false=>exact isTrue_or_nil e
 |true=>exact e
theorem pw_and(ha:PT X a tA)(hb:PW X (.BoolOp .And (b::rest) pos) Xg):PW X (.BoolOp .And (a::b::rest) pos) (Yh tA Xg):=by
 intro wh pins s σ H Q I h
 refine isTrue_and (cj (ha pins s σ H _ I h) fun c s1 ⟨H1,I1,q1⟩=>?_)
 cases c with
 |true=>exact hb wh pins s1 σ H1 Q I1 q1
 |false=>exact⟨H1,I1,q1⟩
theorem pw_or(ha:PT X a tA)(hb:PW X (.BoolOp .Or (b::rest) pos) Xg):PW X (.BoolOp .Or (a::b::rest) pos) (tOr tA Xg):=by
 intro wh pins s σ H Q I h
 refine isTrue_or (cj (ha pins s σ H _ I h) fun c s1 ⟨H1,I1,q1⟩=>?_)
 cases c with
 |true=>exact⟨H1,I1,q1⟩
 |false=>exact hb wh pins s1 σ H1 Q I1 q1
theorem Qe(ha:PT X a tA):PT X (.UnaryOp .Not a pos) (Yi tA):=by
 intro pins s σ H Q I h
 exact isTrue_not (ha pins s σ H (fun c H1=>Q (!c) H1) I h)
def UB(ta tb:TE):TE:=fun σ H Q=>ta σ H fun x H1=>∃c,x=.bl c/\if c=true then tb σ H1 Q else Q (.bl false) H1
theorem Qf{op}{t:TE}(h:PE X a t):PE X (.BoolOp op [a] pos) t:=fun pins s σ H Q I hw=>BoolOp_one (h pins s σ H Q I hw)
theorem Qg(ha:PE X a ta)(hb:PE X (.BoolOp .And (b::rest) pos) tb):PE X (.BoolOp .And (a::b::rest) pos) (UB ta tb):=by
 intro pins s σ H Q I h
 refine BoolOp_and (cj (ha pins s σ H _ I h) fun v s1 ⟨x,H1,I1,r1,q1⟩=>?_)
 obtain⟨c,rfl,q1⟩:=q1
 cases r1
 refine wpAny_truthy_bool ?_
 cases c with
 |true=>exact hb pins s1 σ H1 Q I1 q1
 |false=>exact⟨.bl false,H1,I1,rfl,q1⟩
def tIf(t:TT)(ta tb:TE):TE:=fun σ H Q=>t σ H fun c H1=>if c=true then ta σ H1 Q else tb σ H1 Q
theorem G0{c:Expr}(hc:PT X c tA)(ha:PE X a ta)(hb:PE X b tb):PE X (.IfExp c a b pos) (tIf tA ta tb):=by
 intro pins s σ H Q I h
 refine wpAny_IfExp (cj (hc pins s σ H _ I h) fun d s1 ⟨H1,I1,q1⟩=>?_)
 cases d with
 |true=>exact ha pins s1 σ H1 Q I1 q1
 |false=>exact hb pins s1 σ H1 Q I1 q1
end
end L2
namespace L2
open PySem PySem.Spec PyProof.Rows
def cX(K:PySem.W.Frag)(H:Hp)(a:Addr)(xs:List V):Prop:=
 Rd H a (.lst xs)\/
  ∃(o:Obj)(its:Array Value)(n:Nat),K.lookup a=some o/\o.cls=.type "list"/\o.dict=none/\o.data=.seq its n/\its.size<=sizeLine/\Vals xs its.toList
def z0(K:PySem.W.Frag)(H:Hp)(a:Addr)(xs:List V):Prop:=
 Rd H a (.tup xs)\/
  ∃(o:Obj)(its:Array Value)(n:Nat),K.lookup a=some o/\o.cls=.type "tuple"/\o.data=.seq its n/\its.size<=sizeLine/\Vals xs its.toList
def Yj:Value->Option V
 |.none=>some .non
 |.bool b=>some (.bl b)
 |.int i _=>some (.int i)
 |.str x _=>some (.str x)
 |.bytes b _=>some (.GB b)
 |.float b _=>some (.P5 b)
 |.ref a=>some (.ref a)
 |.type n=>some (.ty n)
 |_=>none
theorem RelV.abs {x:V}{u:Value}(r:RelV x u):Yj u=some x:=by
 cases x with
 |non=>cases r;rfl
 |bl _=>cases r;rfl
 |int _=>obtain⟨t,rfl⟩:=r;rfl
 |str _=>obtain⟨t,rfl⟩:=r;rfl
 |GB _=>obtain⟨t,rfl⟩:=r;rfl
 |P5 _=>obtain⟨t,rfl⟩:=r;rfl
 |ref _=>cases r;rfl
 |ty _=>cases r;rfl
theorem RelV.inj {x y:V}{u:Value}(r:RelV x u)(q:RelV y u):x=y:=Option.some.inj (r.abs.symm.trans q.abs)
theorem Vals.inj:∀{xs ys:List V}{us:List Value},Vals xs us->Vals ys us->xs=ys
 |_,_,_,.nil,.nil=>rfl
 |_,_,_,.cons r t,.cons r' t'=>by rw[r.inj r',Vals.inj t t']
section
variable{X:Cx}{pins:List (Addr×Obj)}{σ:St}{H:Hp}{s:Shared}{a:Addr}{xs ys:List V}
theorem cX.of {K:PySem.W.Frag}(h:H a=some (.lst xs)):cX K H a xs:=.inl (.inl h)
theorem z0.of {K:PySem.W.Frag}(h:H a=some (.tup xs)):z0 K H a xs:=.inl (.inl h)
theorem Inv.list (I:Inv X pins σ H s)(h:cX X.K H a xs):∃its:List Value,Vals xs its/\PlainL s.heap a its.toArray/\xs.length<=sizeLine:=by
 rcases h with h|⟨o,its,n,hk,hc,hd,hs,hz,r⟩
 ·obtain⟨z,its,n,r,e⟩:=h.ok I.hok
  exact⟨its,r,⟨_,n,e,rfl,rfl,rfl⟩,z⟩
 ·refine⟨its.toList,r,⟨o,n,I.sF a o hk,hc,hd,by simpa using hs⟩,?_⟩
  have e:=r.length
  simp only [Array.length_toList]at e
  omega
theorem Inv.tuple (I:Inv X pins σ H s)(h:z0 X.K H a xs):∃its:List Value,Vals xs its/\IsTup s.heap a its.toArray/\xs.length<=sizeLine:=by
 rcases h with h|⟨o,its,n,hk,hc,hs,hz,r⟩
 ·obtain⟨z,its,r,p⟩:=h.ok I.hok
  exact⟨its,r,p,z⟩
 ·refine⟨its.toList,r,⟨o,I.sF a o hk,hc,n,by simpa using hs⟩,?_⟩
  have e:=r.length
  simp only [Array.length_toList]at e
  omega
theorem Inv.qI (I:Inv X pins σ H s)(h:cX X.K H a xs)(h':cX X.K H a ys):xs=ys:=by
 obtain⟨its,r,⟨o,n,e,_,_,d⟩,_⟩:=I.list h
 obtain⟨its',r',⟨o',n',e',_,_,d'⟩,_⟩:=I.list h'
 rw[e]at e';cases e'
 rw[d]at d'
 injection d' with d1 _
 have:its=its':=by simpa using congrArg toList d1
 subst this
 exact r.inj r'
theorem Inv.Fc (I:Inv X pins σ H s)(h:z0 X.K H a xs)(h':z0 X.K H a ys):xs=ys:=by
 obtain⟨its,r,⟨o,e,_,n,d⟩,_⟩:=I.tuple h
 obtain⟨its',r',⟨o',e',_,n',d'⟩,_⟩:=I.tuple h'
 rw[e]at e';cases e'
 rw[d]at d'
 injection d' with d1 _
 have:its=its':=by simpa using congrArg toList d1
 subst this
 exact r.inj r'
end
abbrev Cx.xC (X:Cx)(E:Value->Shared->Prop):Cx:={X with xe:=E}
abbrev Cx.GC (X:Cx):Cx:=X.xC fun _ _=>False
theorem Cx.Ok.xC {X:Cx}(ok:X.Ok)(E:Value->Shared->Prop):(X.xC E).Ok:=
 ⟨ok.mod,ok.kind,ok.glob,ok.blt,ok.above,ok.inj,ok.has,ok.NK,ok.hd,ok.frames,ok.Ux,ok.Uy,ok.bs,ok.K0,ok.E9,ok.By,ok.sE,ok.NN⟩
theorem Cx.Ok.nR {X:Cx}{E:Value->Shared->Prop}(ok:(X.xC E).Ok):X.Ok:=
 ⟨ok.mod,ok.kind,ok.glob,ok.blt,ok.above,ok.inj,ok.has,ok.NK,ok.hd,ok.frames,ok.Ux,ok.Uy,ok.bs,ok.K0,ok.E9,ok.By,ok.sE,ok.NN⟩
section
variable{X:Cx}{pins:List (Addr×Obj)}{σ:St}{H:Hp}{s:Shared}{E:Value->Shared->Prop}
theorem Inv.xC (I:Inv X pins σ H s)(E:Value->Shared->Prop):Inv (X.xC E) pins σ H s:=⟨I.ok.xC E,I.os,I.bare,I.base,I.loc,I.cell,I.free,I.p4,I.pin,I.hok,I.len⟩
theorem Inv.nR (I:Inv (X.xC E) pins σ H s):Inv X pins σ H s:=⟨I.ok.nR,I.os,I.bare,I.base,I.loc,I.cell,I.free,I.p4,I.pin,I.hok,I.len⟩
theorem SP.nR {D:Ends}{f:Flow}{s':Shared}(h:SP (X.xC E) pins D f s'):SP X pins D f s':=by
 cases f with
 |next=>obtain⟨σ',H',I,q⟩:=h;exact⟨σ',H',I.nR,q⟩
 |brk=>obtain⟨σ',H',I,q⟩:=h;exact⟨σ',H',I.nR,q⟩
 |cont=>obtain⟨σ',H',I,q⟩:=h;exact⟨σ',H',I.nR,q⟩
 |ret u=>obtain⟨v,σ',H',I,r,q⟩:=h;exact⟨v,σ',H',I.nR,r,q⟩
theorem ql.GC {st:List Stmt}{t:TS}(h:ql X.GC st t):ql X st t:=fun pins s σ H D I hw=>
 wpAny_mono (h pins s σ H D (I.xC _) hw) (fun _ _ q=>q.nR) fun _ _ z=>False.elim z
end
section
variable{X:Cx}{st:Stmt}{rest:List Stmt}{t u:TS}{e:Expr}{te:TE}{pos:Pos}
def UC:TS:=fun D σ H=>D.nx σ H
def Yk(t u:TS):TS:=fun D σ H=>t {D with nx:=u D} σ H
theorem ky:ql X [] UC:=fun _ _ σ H _ I h=>wpAny_execs_nil ⟨σ,H,I,h⟩
theorem aF(h1:PS X st t)(h2:ql X rest u):ql X (st::rest) (Yk t u):=by
 intro pins s σ H D I h
 refine wpAny_execs_cons (cj (h1 pins s σ H {D with nx:=u D} I h) fun f s1 q=>?_)
 cases f with
 |next=>
  obtain⟨σ',H',I',q⟩:=q
  exact h2 pins s1 σ' H' D I' q
 |ret v=>exact q
 |brk=>exact q
 |cont=>exact q
theorem bU(h1:PS X st t):ql X [st] t:=by
 intro pins s σ H D I h
 refine wpAny_execs_cons (cj (h1 pins s σ H D I h) fun f s1 q=>?_)
 cases f with
 |next=>exact wpAny_execs_nil q
 |ret v=>exact q
 |brk=>exact q
 |cont=>exact q
def Qh:TS:=fun D σ H=>D.bk σ H
theorem G1:PS X (.Break pos) Qh:=fun _ _ σ H _ I h=>wpAny_Break ⟨σ,H,I,h⟩
theorem Inv.quiet {pins:List (Addr×Obj)}{σ:St}{H:Hp}{s:Shared}(I:Inv X pins σ H s):interactive X.env=false:=by simp[interactive,I.ok.kind]
def UD(te:TE):TS:=fun D σ H=>te σ H fun _ H1=>D.nx σ H1
theorem gB(he:PE X e te)(hs:swapsWith e none pos.line X.env=pure false:=by rfl):PS X (.Expr e pos) (UD te):=by
 intro pins s σ H D I h
 exact wpAny_Expr_any (cj (he pins s σ H _ I h) fun v s1 ⟨x,H1,I1,r1,q1⟩=>⟨σ,H1,I1,q1⟩) I.quiet hs
def Ym(te:TE):TS:=fun D σ H=>te σ H D.rt
theorem lg(he:PE X e te):PS X (.Return (some e) pos) (Ym te):=by
 intro pins s σ H D I h
 exact wpAny_Return_some (cj (he pins s σ H _ I h) fun v s1 ⟨x,H1,I1,r1,q1⟩=>⟨x,σ,H1,I1,r1,q1⟩)
def Yn(c:TT)(t u:TS):TS:=fun D σ H=>c σ H fun b H1=>if b=true then t D σ H1 else u D σ H1
theorem ud{c:Expr}{a b:List Stmt}{tc:TT}(hc:PT X c tc)(ha:ql X a t)(hb:ql X b u):PS X (.If c a b pos) (Yn tc t u):=by
 intro pins s σ H D I h
 refine wpAny_If (cj (hc pins s σ H _ I h) fun d s1 ⟨H1,I1,q1⟩=>?_)
 cases d with
 |true=>exact ha pins s1 σ H1 D I1 q1
 |false=>exact hb pins s1 σ H1 D I1 q1
end
abbrev TG:=V->St->Hp->(St->Hp->Prop)->Prop
abbrev Lr:=List V->St->Hp->(St->Hp->Prop)->Prop
def PG(X:Cx)(target:Expr)(t:TG):Prop:=
 ∀(pins:List (Addr×Obj))(s:Shared)(σ:St)(H:Hp)(v:V)(u:Value)(Q:St->Hp->Prop),Inv X pins σ H s->RelV v u->t v σ H Q->
  wpAny (model X.prog X.w) X.A (assign target X.env u) (fun _ s'=>∃σ' H',Inv X pins σ' H' s'/\Q σ' H') X.xe s
def CZ(X:Cx)(ts:List Expr)(t:Lr):Prop:=
 ∀(pins:List (Addr×Obj))(s:Shared)(σ:St)(H:Hp)(vs:List V)(us:List Value)(Q:St->Hp->Prop),Inv X pins σ H s->Vals vs us->t vs σ H Q->
  wpAny (model X.prog X.w) X.A (assignInOrder ((assignEach ts X.env).map (·.2)) us) (fun _ s'=>∃σ' H',Inv X pins σ' H' s'/\Q σ' H') X.xe s
abbrev Qi:=V->V->V->Hp->(Hp->Prop)->Prop
def UE(X:Cx)(t:Qi):Prop:=
 ∀(pins:List (Addr×Obj))(s:Shared)(σ:St)(H:Hp)(o i v:V)(ov iv u:Value)(Q:Hp->Prop),Inv X pins σ H s->RelV o ov->RelV i iv->RelV v u->t o i v H Q->
  wpAny (model X.prog X.w) X.A (setItem ov iv u) (fun _ s'=>∃H',Inv X pins σ H' s'/\Q H') X.xe s
abbrev Xh:=V->V->Hp->VK->Prop
def TU(X:Cx)(op:Operator)(t:Xh):Prop:=
 ∀(pins:List (Addr×Obj))(s:Shared)(σ:St)(H:Hp)(x y:V)(v u:Value)(Q:VK),Inv X pins σ H s->RelV x v->RelV y u->t x y H Q->
  wpAny (model X.prog X.w) X.A (inplaceOp op v u) (EP X pins σ Q) X.xe s
section
variable{X:Cx}{pos:Pos}
def G2(i:Nat):TG:=fun v σ H Q=>Q (σ.set i (some v)) H
theorem yQ{i:Nat}{x:Str}(hN:X.N.Nodup)(hi:X.N[i]?=some x)(hx:Loc X.env.scope x)(hf:X.fn x=true\/X.env.scope.names.lookup x=some .local:=by first|exact .inl rfl|exact .inr rfl|assumption):PG X (.Name x pos) (G2 i):=by
 intro pins s σ H v u Q I r h
 exact wpAny_assign_Name (vJ I hN hi hx r (fun s' I'=>⟨_,H,I',h⟩) hf)
def Yo:Lr:=fun vs σ H Q=>vs=[]/\Q σ H
def UG(t:TG)(u:Lr):Lr:=fun vs σ H Q=>∃v r,vs=v::r/\t v σ H fun σ' H'=>u r σ' H' Q
theorem Ls:CZ X [] Yo:=by
 intro pins s σ H vs us Q I r h
 obtain⟨e,h⟩:=h
 subst e
 cases r
 exact assignInOrder_nil ⟨σ,H,I,h⟩
theorem G3{e:Expr}{es:List Expr}{t:TG}{u:Lr}(h1:PG X e t)(h2:CZ X es u)
  (hs:(assignEach (e::es) X.env).map (·.2)=assign e X.env::(assignEach es X.env).map (·.2):=by rfl):CZ X (e::es) (UG t u):=by
 intro pins s σ H vs us Q I r h
 obtain⟨v,vr,e1,h⟩:=h
 subst e1
 cases r with
 |cons r rr=>
  rw[hs]
  refine assignInOrder_cons (cj (h1 pins s σ H _ _ _ I r h) fun _ s1 ⟨σ1,H1,I1,q1⟩=>?_)
  exact h2 pins s1 σ1 H1 _ _ Q I1 rr q1
def Yp(K:PySem.W.Frag)(n:Nat)(t:Lr):TG:=fun v σ H Q=>∃a xs,v=.ref a/\z0 K H a xs/\xs.length=n/\t xs σ H Q
theorem Qj{es:List Expr}{k:Nat}{t:Lr}{n:Nat}(hc:X.calm=true)(h:CZ X es t)
  (hn:(assignEach es X.env).length=n:=by rfl)(hst:(assignEach es X.env).findIdx? (·.1)=none:=by rfl):PG X (.Tuple es k pos) (Yp X.K n t):=by
 intro pins s σ H v u Q I r hw
 obtain⟨a,xs,e1,hq,hl,hw⟩:=hw
 subst e1
 cases r
 obtain⟨its,rv,ht,hz⟩:=I.tuple hq
 refine assign_Tuple_tuple (I.ok.hd hc) ht (by simp[hn,<-hl,rv.length]) hst fun h' hx=>?_
 have I1:Inv X pins σ H {s with heap:=h'}:=I.kept (t':=s.toks) fun b o e=>hx b o (ne_of_lt (Heap.lt_size e)) e
 exact h pins _ σ H xs _ Q I1 (by simpa using rv) hw
def Yq(to ti:TE)(t:Qi):TG:=fun v σ H Q=>to σ H fun o H1=>ti σ H1 fun i H2=>t o i v H2 fun H3=>Q σ H3
theorem BC{o i:Expr}{to ti:TE}{t:Qi}(ho:PE X o to)(hi:PE X i ti)(hs:UE X t)
  (ha:∀v,assign (.Subscript o i pos) X.env v=(do
   let ov<-holding [v] (eval o X.env)
   let iv<-holding [v,ov] (eval i X.env)
   standAt pos
   holding [v,ov,iv] (setItem ov iv v)
   release [v,ov,iv] []):=by intro _;rfl):PG X (.Subscript o i pos) (Yq to ti t):=by
 intro pins s σ H v u Q I r h
 rw[ha]
 refine wpAny_bind (wpAny_holding (cj (ho pins s σ H _ I h) fun ov s1 ⟨x,H1,I1,r1,q1⟩=>?_))
 refine wpAny_bind (wpAny_holding (cj (hi pins s1 σ H1 _ I1 q1) fun iv s2 ⟨y,H2,I2,r2,q2⟩=>?_))
 refine wpAny_bind (wpAny_standAt (wpAny_bind (wpAny_holding (cj (hs pins s2 σ H2 x y v ov iv u _ I2 r1 r2 r q2) fun _ s3 ⟨H3,I3,q3⟩=>?_))))
 exact wpAny_release ⟨σ,H3,I3,q3⟩
def UH(te:TE)(g:TG):TS:=fun D σ H=>te σ H fun x H1=>g x σ H1 D.nx
theorem BD{tg e:Expr}{te:TE}{g:TG}(he:PE X e te)(hg:PG X tg g)(hs:swapsWithSole [tg] e pos.line X.env=pure false:=by rfl)(hw:swappedStores [tg] e X.env=pure none:=by rfl)
  (h1:(assignEach [tg] X.env).map (·.2)=[assign tg X.env]:=by rfl):PS X (.Assign [tg] e pos) (UH te g):=by
 intro pins s σ H D I h
 refine wpAny_Assign_stores (cj (he pins s σ H _ I h) fun v s1 ⟨x,H1,I1,r1,q1⟩=>?_) hs hw
 rw[h1]
 exact cj (hg pins s1 σ H1 x v _ I1 r1 q1) fun _ s2 q=>q
theorem dq{i:Nat}{x:Str}{e:Expr}{te:TE}{pos':Pos}(hN:X.N.Nodup)(hi:X.N[i]?=some x)(hx:Loc X.env.scope x)(he:PE X e te)(hs:swapsWith e (some (.Name x pos')) pos.line X.env=pure false:=by rfl)(hf:X.fn x=true\/X.env.scope.names.lookup x=some .local:=by first|exact .inl rfl|exact .inr rfl|assumption):
  PS X (.Assign [.Name x pos'] e pos) (UH te (G2 i)):=by
 intro pins s σ H D I h
 refine wpAny_Assign_Name (cj (he pins s σ H _ I h) fun v s1 ⟨y,H1,I1,r1,q1⟩=>?_) hs
 exact vJ I1 hN hi hx r1 (fun s2 I2=>⟨_,H1,I2,q1⟩) hf
def Yr(i:Nat)(te:TE)(ti:Xh):TS:=fun D σ H=>∃x,σ[i]?=some (some x)/\te σ H fun y H1=>ti x y H1 fun z H2=>D.nx (σ.set i (some z)) H2
theorem BE{i:Nat}{x:Str}{e:Expr}{te:TE}{op:Operator}{ti:Xh}{pos':Pos}(hN:X.N.Nodup)(hi:X.N[i]?=some x)(hx:Loc X.env.scope x)(he:PE X e te)(ho:TU X op ti)(hf:X.fn x=true\/X.env.scope.names.lookup x=some .local:=by first|exact .inl rfl|exact .inr rfl|assumption):
  PS X (.AugAssign (.Name x pos') op e pos) (Yr i te ti):=by
 intro pins s σ H D I h
 obtain⟨v,e1,h⟩:=h
 obtain⟨m,hn,hl⟩:=I.loc
 have vis:x8 X.env.scope x:=by rcases hx with k|k;exact .inl k;exact .inr (.inl k)
 obtain⟨u,r,l⟩:=hl i x v hi e1 vis
 refine wpAny_AugAssign_Name ?_
 have go:wpAny (model X.prog X.w) X.A (eval e X.env) (fun w s₂=>wpAny (model X.prog X.w) X.A (inplaceOp op u w) (fun r s₃=>wpAny (model X.prog X.w) X.A (storeName X.env x r) (fun _=>SP X pins D .next) X.xe s₃) X.xe s₂) X.xe s:=by
  refine cj (he pins s σ H _ I h) fun w s1 ⟨y,H1,I1,r1,q1⟩=>?_
  refine cj (ho pins s1 σ H1 v y u w _ I1 r r1 q1) fun z s2 ⟨zv,H2,I2,r2,q2⟩=>?_
  exact vJ I2 hN hi hx r2 (fun s3 I3=>⟨_,H2,I3,q2⟩) hf
 rcases l with⟨hk,hm⟩|⟨hk,c,hc,hcell⟩
 ·exact wpAny_loadName_local I.ok.kind hk hn hm go
 ·rcases hk with hk|hk
  ·exact wpAny_loadName_cell I.ok.kind hk hc hcell go
  ·rcases hx with k|k
   ·have:X.env.scope.names.lookup x=some .free:=hk
    rw[k]at this;cases this
   ·have:X.env.scope.names.lookup x=some .free:=hk
    rw[k]at this;cases this
def UI(f:Int->Int->Int):Xh:=fun x y H Q=>∃i j,x=.int i/\y=.int j/\Q (.int (f i j)) H
theorem G4:TU X .Add (UI fun i j=>i+j):=by
 intro pins s σ H x y v u Q I r1 r2 h
 obtain⟨i,j,e1,e2,q⟩:=h
 subst e1;subst e2
 obtain⟨t,rfl⟩:=r1
 obtain⟨t',rfl⟩:=r2
 exact iadd_int ⟨.int _,H,I.tok _,⟨_,rfl⟩,q⟩
theorem Qk:TU X .Sub (UI fun i j=>i-j):=by
 intro pins s σ H x y v u Q I r1 r2 h
 obtain⟨i,j,e1,e2,q⟩:=h
 subst e1;subst e2
 obtain⟨t,rfl⟩:=r1
 obtain⟨t',rfl⟩:=r2
 exact isub_int ⟨.int _,H,I.tok _,⟨_,rfl⟩,q⟩
end
section
variable{X:Cx}{pos:Pos}
def Ql(c:TT)(tb:TS):TS:=fun D σ H=>∃W:Nat->St->Hp->Prop,(∃m,W m σ H)/\∀m σ H,W m σ H->
 c σ H fun b H1=>if b=true then∃N:St->Hp->Prop,(∀σ' H',N σ' H'->∃m',m'<m/\W m' σ' H')/\tb {D with nx:=N,ct:=N,bk:=D.nx} σ H1 else D.nx σ H1
theorem vK{c:Expr}{body:List Stmt}{tc:TT}{tb:TS}(hp:PassesOwn (model X.prog X.w) X.A X.env X.xe)(hc:PT X c tc)(hb:ql X body tb):PS X (.While c body [] pos) (Ql tc tb):=by
 intro pins s σ H D I h
 obtain⟨W,⟨m0,w0⟩,turn⟩:=h
 refine wpAny_While (codeAny_whileLoop (fun n s'=>∃σ' H',Inv X pins σ' H' s'/\W n σ' H') ?_ m0 ⟨σ,H,I,w0⟩)
 rintro n s1 ⟨σ1,H1,I1,w1⟩
 refine wpAny_passesOwn hp (cj (hc pins s1 σ1 H1 _ I1 (turn n σ1 H1 w1)) fun b s2 ⟨H2,I2,q2⟩=>?_)
 cases b with
 |true=>
  obtain⟨N,hN,q2⟩:=q2
  rw[if_pos rfl]
  refine wpAny_passesOwn hp (cj (hb pins s2 σ1 H2 _ I2 q2) fun f s3 q3=>?_)
  cases f with
  |next=>
   obtain⟨σ3,H3,I3,n3⟩:=q3
   obtain⟨m',hm,w3⟩:=hN σ3 H3 n3
   exact⟨m',hm,σ3,H3,I3,w3⟩
  |cont=>
   obtain⟨σ3,H3,I3,n3⟩:=q3
   obtain⟨m',hm,w3⟩:=hN σ3 H3 n3
   exact⟨m',hm,σ3,H3,I3,w3⟩
  |brk=>exact q3
  |ret v=>exact q3
 |false=>
  rw[if_neg Bool.false_ne_true]
  exact wpAny_execs_nil ⟨σ1,H2,I2,q2⟩
end
structure It where
 go:Nat->Hp->Prop
 UJ:Nat->Hp->V->Hp->Prop
 stop:Nat->Hp->Prop
def nH(X:Cx)(pins:List (Addr×Obj))(H:Hp)(b:Addr):Prop:=
 H b=none/\b≠X.env.locals/\b∉X.fs/\(b∈X.ex\/X.s₀.heap.objs.size<=b)/\(∀x c,X.env.cells.lookup x=some c->c≠b)/\∀p∈X.pn++pins,p.1≠b
theorem Inv.Fd {X:Cx}{pins:List (Addr×Obj)}{σ:St}{H H':Hp}{s:Shared}{b:Addr}(I:Inv X pins σ H s)(hb:s.heap.objs.size<=b)(hn:H' b=none):nH X pins H' b:=by
 refine⟨hn,ne_of_gt (lt_of_lt_of_le I.lt hb),I.Yc hb,.inr (le_trans I.sz hb),fun x c e z=>?_,fun p hp z=>?_⟩
 ·obtain⟨v,q⟩:=I.cell x c e
  exact absurd (lt_of_lt_of_le q.lt (by rw[z];exact hb)) (Nat.lt_irrefl _)
 ·exact absurd (lt_of_lt_of_le (Heap.lt_size (I.pin p hp).1) (by rw[z];exact hb)) (Nat.lt_irrefl _)
structure Turn(P:Program)(w:World)(K:PySem.W.Frag)(tg:Expr)(J:It)(fp:List Addr)(it:Addr)(tn:Nat->Heap->Prop):Prop where
 mem:it∈fp
 obj:∀i h,tn i h->∀b∈fp,∃o,h.get? b=some o/\∀v,o.data≠.cell v
 keep:∀i h h',tn i h->(∀b∈fp,∀o,h.get? b=some o->h'.get? b=some o)->tn i h'
 item:∀(X:Cx),X.prog=P->X.w=w->X.K=K->X.calm=true->∀(i:Nat)(pins:List (Addr×Obj))(s:Shared)(σ:St)(H:Hp)(E:Value->Shared->Prop),Inv X pins σ H s->(∀b∈fp,nH X pins H b)->tn i s.heap->J.go i H->
  wpAny (model P w) X.A (pyNext (.ref it)) (fun r s1=>∃u,r=some u/\
   wpAny (model P w) X.A (letOwnedTupleGo tg (.ref it) u) (fun _ s2=>∃x H',Inv X pins σ H' s2/\RelV x u/\J.UJ i H x H'/\tn (i+1) s2.heap/\∀b∈fp,H' b=none) E s1) E s
 done:∀(X:Cx),X.prog=P->X.w=w->X.K=K->X.calm=true->∀(i:Nat)(pins:List (Addr×Obj))(s:Shared)(σ:St)(H:Hp)(E:Value->Shared->Prop),Inv X pins σ H s->(∀b∈fp,nH X pins H b)->tn i s.heap->J.stop i H->
  wpAny (model P w) X.A (pyNext (.ref it)) (fun r s1=>r=none/\Inv X pins σ H s1) E s
 self:∀(A:Around)(i:Nat)(s:Shared)(Q:Value->Shared->Prop)(E:Value->Shared->Prop),tn i s.heap->Q (.ref it) s->wpAny (model P w) A (pyIter (.ref it)) Q E s
abbrev TI:=St->Hp->(It->Hp->Prop)->Prop
def PIE(X:Cx)(pins:List (Addr×Obj))(σ:St)(tg:Expr)(R:It->Hp->Prop)(itv:Value)(s2:Shared):Prop:=
 ∃(it:Addr)(fp:List Addr)(tn:Nat->Heap->Prop)(J:It)(H':Hp),itv=.ref it/\Inv X pins σ H' s2/\Turn X.prog X.w X.K tg J fp it tn/\tn 0 s2.heap/\(∀b∈fp,nH X pins H' b)/\R J H'
def PI(X:Cx)(tg iter:Expr)(wi:TI):Prop:=
 ∀(pins:List (Addr×Obj))(s:Shared)(σ:St)(H:Hp)(R:It->Hp->Prop),Inv X pins σ H s->wi σ H R->
  wpAny (model X.prog X.w) X.A (eval iter X.env) (fun v s1=>wpAny (model X.prog X.w) X.A (pyIter v) (PIE X pins σ tg R) X.xe s1) X.xe s
theorem G5{M:Model}{A:Around}{E:Value->Shared->Prop}{s:Shared}{tg:Expr}{it:Addr}{u:Value}{o:Obj}{n:String}{vs:Array Value}{Q:Unit->Shared->Prop}(ho:s.heap.get? it=some o)(hc:o.cls=.type n)(hd:o.data=.fields vs)
  (hn:["enumerate","zip","dict_itemiterator","dict_reverseitemiterator","odict_iterator","itertools.zip_longest","itertools.pairwise"].contains n=false)(hQ:Q () s):wpAny M A (letOwnedTupleGo tg (.ref it) u) Q E s:=by
 unfold letOwnedTupleGo
 cases tg<;>first
  |exact wpAny_pure hQ
  |(cases u<;>first
    |exact wpAny_pure hQ
    |(refine wpAny_bind (wpAny_load ho ?_)
      rw[hc,hd]
      show wpAny M A (if(["enumerate","zip","dict_itemiterator","dict_reverseitemiterator","odict_iterator","itertools.zip_longest","itertools.pairwise"].contains n&&vs[0]?==some (rawInt _))=true then _ else _) Q E s
      rw[if_neg (by intro h;rw[hn,Bool.false_and]at h;cases h)]
      exact wpAny_pure hQ))
def Qm(K:PySem.W.Frag)(a:Addr):It:=
 ⟨fun i H=>∃xs x,cX K H a xs/\xs[i]?=some x,fun i H x H'=>H'=H/\∀xs,cX K H a xs->xs[i]?=some x,fun i H=>∃xs,cX K H a xs/\xs.length<=i⟩
def Xi(lo:Int)(n:Nat):It:=⟨fun i _=>i<n,fun i H x H'=>H'=H/\x=.int (lo+i),fun i _=>n<=i⟩
theorem Fe{P:Program}{w:World}{K:PySem.W.Frag}{tg:Expr}(a it:Addr):Turn P w K tg (Qm K a) [it] it (fun i h=>h.IsListIter it a i) where
 mem:=by simp
 obj:=fun i h st b hb=>by
  have e:b=it:=by simpa using hb
  subst e
  obtain⟨o,e,c,d⟩:=st
  exact⟨o,e,fun v z=>by rw[d]at z;cases z⟩
 keep:=fun i h h' st k=>st.at fun o e=>k it (by simp) o e
 item:=by
  intro X hP hw hK hc i pins s σ H E I hf st hg
  subst hP hw hK
  obtain⟨xs,x,hq,hx⟩:=hg
  obtain⟨its,rv,p,hz⟩:=I.list hq
  obtain⟨u,hu,ru⟩:=rv.get hx
  obtain⟨f0,f1,f2,f3,f4,f5⟩:=hf it (by simp)
  refine wpAny_pyNext_list_item st p.isList (x:=u) (by simpa using hu) fun h' Lu sb=>?_
  have I1:Inv X pins σ H {s with heap:=h'}:=I.turned (t':=s.toks) (fun b o hb e=>(sb.2 b hb).trans e) f0 f1 f3 f4 f5
  obtain⟨o,e,c,d⟩:=id Lu
  exact⟨u,rfl,G5 (s:={s with heap:=h'}) e c d (by decide) ⟨x,H,I1,ru,⟨rfl,fun ys hy=>by rw[I.qI hy hq];exact hx⟩,Lu,fun b hb=>(hf b hb).1⟩⟩
 done:=by
  intro X hP hw hK hc i pins s σ H E I hf st hg
  subst hP hw hK
  obtain⟨xs,hq,hx⟩:=hg
  obtain⟨its,rv,p,hz⟩:=I.list hq
  obtain⟨f0,f1,f2,f3,f4,f5⟩:=hf it (by simp)
  have hl:=rv.length
  exact wpAny_pyNext_list_end (I.ok.hd hc) st p.isList (by simp;omega) fun h' eb=>⟨rfl,I.turned (t':=s.toks) (fun b o hb e=>eb b o hb e) f0 f1 f3 f4 f5⟩
 self:=fun _ _ _ _ _ st h=>wpAny_pyIter_listiter st h
theorem BF{P:Program}{w:World}{K:PySem.W.Frag}{tg:Expr}(it:Addr)(lo:Int)(n:Nat):Turn P w K tg (Xi lo n) [it] it (fun i h=>IsRangeIter h it (lo+(i:Nat)*1) ((n:Int)-(i:Nat)) 1) where
 mem:=by simp
 obj:=fun i h st b hb=>by
  have e:b=it:=by simpa using hb
  subst e
  exact⟨_,st,fun v z=>by
   have z':Data.fields _=Data.cell v:=z
   cases z'⟩
 keep:=fun i h h' st k=>k it (by simp) _ st
 item:=by
  intro X hP hw hK hc i pins s σ H E I hf st hg
  subst hP hw hK
  obtain⟨f0,f1,f2,f3,f4,f5⟩:=hf it (by simp)
  have W:=Walks.range (prog:=X.prog) (w:=X.w) (I.ok.hd hc) it lo 1 n
  refine W.item i s _ _ hg st fun v h' tk hv Lu kk=>?_
  obtain⟨t,rfl⟩:=hv
  have I1:Inv X pins σ H {s with heap:=h',toks:=tk}:=I.turned (fun b o hb e=>kk b o (by simpa using hb) e) f0 f1 f3 f4 f5
  refine⟨_,rfl,G5 (s:={s with heap:=h',toks:=tk}) (n:="range_iterator") Lu rfl rfl (by decide) ⟨.int (lo+i),H,I1,⟨t,?_⟩,⟨rfl,rfl⟩,Lu,fun b hb=>(hf b hb).1⟩⟩
  rw[Int.mul_one]
 done:=by
  intro X hP hw hK hc i pins s σ H E I hf st hg
  subst hP hw hK
  obtain⟨f0,f1,f2,f3,f4,f5⟩:=hf it (by simp)
  exact wpAny_pyNext_range_end (I.ok.hd hc) st (by have:n<=i:=hg;omega) fun h' eb=>⟨rfl,I.turned (t':=s.toks) (fun b o hb e=>eb b o hb e) f0 f1 f3 f4 f5⟩
 self:=fun _ _ _ _ _ st h=>wpAny_pyIter_rangeiter st h
end L2
namespace L2
open PySem PySem.Spec PyProof.Rows
section
variable{X:Cx}{tg:Expr}
def G6(K:PySem.W.Frag)(tl:TE):TI:=fun σ H R=>tl σ H fun x H1=>∃a,x=.ref a/\(∃xs,cX K H1 a xs)/\R (Qm K a) H1
theorem uU{l:Expr}{tl:TE}(hl:PE X l tl):PI X tg l (G6 X.K tl):=by
 intro pins s σ H R I h
 refine cj (hl pins s σ H _ I h) fun v s1 ⟨x,H1,I1,r1,q1⟩=>?_
 obtain⟨a,e,⟨xs,hq⟩,q⟩:=q1
 subst e
 cases r1
 obtain⟨its,rv,p,hz⟩:=I1.list hq
 refine wpAny_pyIter_list p.isList ?_
 refine⟨s1.heap.objs.size,[s1.heap.objs.size],_,_,H1,rfl,I1.kept (t':=s1.toks) fun b o e=>Heap.get?_push_of_some _ e,Fe a _,⟨_,Heap.get?_push_size _ rfl,rfl,rfl⟩,fun b hb=>?_,q⟩
 have e:b=s1.heap.objs.size:=by simpa using hb
 subst e
 exact I1.Fd (Nat.le_refl _) (I1.hok.fresh (Nat.le_refl _))
theorem G7{pins:List (Addr×Obj)}{σ:St}{H:Hp}{s:Shared}{R:It->Hp->Prop}{E:Value->Shared->Prop}{lo hi:Int}{t u v:Tok}{tk:Nat}(I:Inv X pins σ H s)(h1: -(2^62)<=lo)(h2:lo<2^62)(h3: -(2^62)<=hi)(h4:hi<2^62)
  (q:R (Xi lo (hi-lo).toNat) H):wpAny (model X.prog X.w) X.A (pyIter (.ref s.heap.objs.size)) (PIE X pins σ tg R) E {s with heap:=s.heap.push {cls:=.type "range",data:=.fields #[.int lo t,.int hi u,.int 1 v]},toks:=tk}:=by
 refine wpAny_pyIter_range (IsRange.new ..) (small_one h1 h2 h3 h4) ?_
 have I1:Inv X pins σ H {s with heap:=s.heap.push {cls:=.type "range",data:=.fields #[.int lo t,.int hi u,.int 1 v]},toks:=tk}:=I.kept fun b o e=>Heap.get?_push_of_some _ e
 refine⟨(s.heap.push {cls:=.type "range",data:=.fields #[.int lo t,.int hi u,.int 1 v]}).objs.size,[(s.heap.push {cls:=.type "range",data:=.fields #[.int lo t,.int hi u,.int 1 v]}).objs.size],_,_,H,rfl,
  I1.kept (t':=tk) fun b o e=>Heap.get?_push_of_some _ e,BF _ lo (hi-lo).toNat,?_,fun b hb=>?_,q⟩
 ·have e1:lo+((0:Nat):Int)*1=lo:=by simp
  have e2:(((hi-lo).toNat:Nat):Int)-((0:Nat):Int)=Builtin.Range.rangeSize lo hi 1:=by rw[rangeSize_one];split<;>omega
  show IsRangeIter _ _ (lo+((0:Nat):Int)*1) ((((hi-lo).toNat:Nat):Int)-((0:Nat):Int)) 1
  rw[e1,e2]
  exact Heap.get?_push_size _ rfl
 ·have e:b=(s.heap.push {cls:=.type "range",data:=.fields #[.int lo t,.int hi u,.int 1 v]}).objs.size:=by simpa using hb
  subst e
  exact I1.Fd (Nat.le_refl _) (I1.hok.fresh (Nat.le_refl _))
def UK(ta:TA):TI:=fun σ H R=>ta σ H fun vs H1=>∃i j:Int,vs=[.int i,.int j]/\(-(2^62)<=i/\i<2^62/\ -(2^62)<=j/\j<2^62)/\R (Xi i (j-i).toNat) H1
theorem Ff{a b:Expr}{ta:TA}{p pos:Pos}(hg:Gl X "range")(hm:X.mg "range"=none)(ha:PA X [a,b] ta)(hs:starEach [a,b] X.env=[(false,eval a X.env),(false,eval b X.env)]:=by rfl)(hs2:starEach [b] X.env=[(false,eval b X.env)]:=by rfl):
  PI X tg (.Call (.Name "range" p) [a,b] [] pos) (UK ta):=by
 intro pins s σ H R I h
 refine Call_ (iD I hg hm boot_range (PyProof.Rows.callWith_type1 (cj (ha pos pins s σ H _ I h) fun us s1 ⟨vs,H1,I1,r1,q1⟩=>?_) (by rw[hs,hs2]) (by rw[hs2];rfl)))
 obtain⟨i,j,e,⟨q1,q2,q3,q4⟩,q⟩:=q1
 subst e
 cases r1 with
 |cons r rr=>
  cases rr with
  |cons r' rr=>
   cases rr
   obtain⟨t,rfl⟩:=r
   obtain⟨t',rfl⟩:=r'
   exact call_range_2 (G7 I1 q1 q2 q3 q4 q)
def Ys(wi:TI)(g:TG)(tb:TS):TS:=fun D σ H=>wi σ H fun J H1=>∃W:Nat->Nat->St->Hp->Prop,(∃m,W 0 m σ H1)/\∀i m σ H,W i m σ H->
 (J.stop i H/\D.nx σ H)\/(J.go i H/\∃N:St->Hp->Prop,(∀σ' H',N σ' H'->∃m',m'<m/\W (i+1) m' σ' H')/\∀x H',J.UJ i H x H'->g x σ H' fun σ2 H2=>tb {D with nx:=N,ct:=N,bk:=D.nx} σ2 H2)
def sG(fp:List Addr)(h:Heap):List (Addr×Obj):=fp.filterMap fun b=>(h.get? b).map fun o=>(b,o)
theorem iF{fp:List Addr}{h:Heap}{b:Addr}{o:Obj}(hb:b∈fp)(e:h.get? b=some o):(b,o)∈sG fp h:=List.mem_filterMap.mpr ⟨b,hb,by rw[e];rfl⟩
theorem Fg{fp:List Addr}{h:Heap}{p:Addr×Obj}(hp:p∈sG fp h):p.1∈fp/\h.get? p.1=some p.2:=by
 obtain⟨b,hb,e⟩:=List.mem_filterMap.mp hp
 cases q:h.get? b with
 |none=>rw[q]at e;cases e
 |some o=>
  rw[q]at e
  have e':(b,o)=p:=Option.some.inj e
  subst e'
  exact⟨hb,q⟩
theorem Inv.pinned {pins:List (Addr×Obj)}{σ:St}{H:Hp}{s:Shared}{fp:List Addr}(I:Inv X pins σ H s)(hf:∀b∈fp,nH X pins H b)(ho:∀b∈fp,∃o,s.heap.get? b=some o/\∀v,o.data≠.cell v):Inv X (pins++sG fp s.heap) σ H s:=
 I.CY fun p hp=>(mem_append.mp hp).elim (fun z=>I.pin p (mem_append_right _ z)) fun z=>by
  obtain⟨hb,e⟩:=Fg z
  obtain⟨f0,f1,f2,_⟩:=hf p.1 hb
  obtain⟨o,e',d⟩:=ho p.1 hb
  rw[e]at e';cases e'
  exact⟨e,f0,f1,f2,d⟩
theorem Inv.lJ {pins pl:List (Addr×Obj)}{σ:St}{H:Hp}{s:Shared}(I:Inv X (pins++pl) σ H s):Inv X pins σ H s:=I.CY fun p hp=>I.pin p (mem_append_right _ (mem_append_left _ hp))
theorem G8{iter:Expr}{body:List Stmt}{wi:TI}{g:TG}{tb:TS}{pos:Pos}(hp:PassesOwn (model X.prog X.w) X.A X.env X.xe)(hc:X.calm=true)(hi:PI X tg iter wi)(hg:PG X tg g)(hb:ql X body tb)
  (hs:∀x,foldedSetIterable iter X.env x=pure x:=by intro _;rfl):PS X (.For tg iter body [] pos) (Ys wi g tb):=by
 intro pins s σ H D I h
 refine wpAny_For (cj (hi pins s σ H _ I h) fun v s1 h1=>cj h1 fun itv s2 h2=>?_) hs
 obtain⟨it,fp,tn,J,H2,e,I2,T,K1,f2,W,⟨m0,w0⟩,turn⟩:=h2
 subst e
 have Qn:∀{H':Hp},(∀b∈fp,H' b=none)->∀b∈fp,nH X pins H' b:=fun hn b hb=>⟨hn b hb,(f2 b hb).2⟩
 refine codeAny_forLoop_any (fun n s'=>∃i σ' H',Inv X pins σ' H' s'/\tn i s'.heap/\(∀b∈fp,H' b=none)/\W i n σ' H') ?_ m0 ⟨0,σ,H2,I2,K1,fun b hb=>(f2 b hb).1,w0⟩
 rintro n s3 ⟨i,σ3,H3,I3,st3,sH,w3⟩
 rcases turn i n σ3 H3 w3 with⟨stop,qn⟩|⟨go,N,hN,step⟩
 ·refine wpAny_passesOwn hp (cj (T.done X rfl rfl rfl hc i pins s3 σ3 H3 X.xe I3 (Qn sH) st3 stop) fun r s4 ⟨hr,I4⟩=>?_)
  subst hr
  exact wpAny_execs_nil ⟨σ3,H3,I4,qn⟩
 ·refine wpAny_passesOwn hp (cj (T.item X rfl rfl rfl hc i pins s3 σ3 H3 X.xe I3 (Qn sH) st3 go) fun r s4 ⟨u,hr,h4⟩=>?_)
  subst hr
  refine wpAny_passesOwn hp (cj h4 fun _ s5 ⟨x,H5,I5,r5,y5,Lv,K2⟩=>?_)
  have I5':=I5.pinned (Qn K2) (T.obj _ _ Lv)
  refine wpAny_passesOwn hp (cj (hg _ s5 σ3 H5 x u _ I5' r5 (step x H5 y5)) fun _ s6 ⟨σ6,H6,I6,q6⟩=>?_)
  refine wpAny_passesOwn hp (cj (hb _ s6 σ6 H6 _ I6 q6) fun f s7 q7=>?_)
  have again:∀{σ7:St}{H7:Hp},Inv X (pins++sG fp s5.heap) σ7 H7 s7->N σ7 H7->∃m,m<n/\∃i σ' H',Inv X pins σ' H' s7/\tn i s7.heap/\(∀b∈fp,H' b=none)/\W i m σ' H':=fun{σ7 H7} I7 n7=>by
   obtain⟨m',hm,w7⟩:=hN σ7 H7 n7
   refine⟨m',hm,i+1,σ7,H7,I7.lJ,T.keep _ _ _ Lv fun b hb o e=>(I7.pin (b,o) (mem_append_right _ (mem_append_right _ (iF hb e)))).1,fun b hb=>?_,w7⟩
   obtain⟨o,e,d⟩:=T.obj _ _ Lv b hb
   exact(I7.pin (b,o) (mem_append_right _ (mem_append_right _ (iF hb e)))).2.1
  cases f with
  |next=>obtain⟨σ7,H7,I7,n7⟩:=q7;exact again I7 n7
  |cont=>obtain⟨σ7,H7,I7,n7⟩:=q7;exact again I7 n7
  |brk=>obtain⟨σ7,H7,I7,q7⟩:=q7;exact⟨σ7,H7,I7.lJ,q7⟩
  |ret v=>obtain⟨x7,σ7,H7,I7,r7,q7⟩:=q7;exact⟨x7,σ7,H7,I7.lJ,r7,q7⟩
end
theorem G9{K:PySem.W.Frag}{a:Addr}{xs:List V}{g:TG}{tb:TS}{D:Ends}{σ:St}{H:Hp}(Pv:Nat->St->Hp->Prop)(h0:Pv 0 σ H)(hl:∀i σ H,i<=xs.length->Pv i σ H->cX K H a xs)
  (hs:∀i x σ H,xs[i]?=some x->Pv i σ H->g x σ H fun σ2 H2=>tb {D with nx:=Pv (i+1),ct:=Pv (i+1),bk:=D.nx} σ2 H2)(hd:∀σ H,Pv xs.length σ H->D.nx σ H):
  ∃W:Nat->Nat->St->Hp->Prop,(∃m,W 0 m σ H)/\∀i m σ H,W i m σ H->
   ((Qm K a).stop i H/\D.nx σ H)\/((Qm K a).go i H/\∃N:St->Hp->Prop,(∀σ' H',N σ' H'->∃m',m'<m/\W (i+1) m' σ' H')/\∀x H',(Qm K a).UJ i H x H'->g x σ H' fun σ2 H2=>tb {D with nx:=N,ct:=N,bk:=D.nx} σ2 H2):=by
 refine⟨fun i m σ H=>m=xs.length-i/\i<=xs.length/\Pv i σ H,⟨xs.length,by simp,zero_le _,h0⟩,?_⟩
 rintro i m σ H ⟨rfl,hi,p⟩
 have q:=hl i σ H hi p
 by_cases hlt:i<xs.length
 ·refine .inr ⟨⟨xs,xs[i],q,by simp[hlt]⟩,Pv (i+1),fun σ' H' p'=>⟨xs.length-(i+1),by omega,rfl,hlt,p'⟩,fun x H' y=>?_⟩
  obtain⟨e,y⟩:=y
  subst e
  exact hs i x σ _ (y xs q) p
 ·have e:i=xs.length:=by omega
  subst e
  exact .inl ⟨⟨xs,q,Nat.le_refl _⟩,hd σ H p⟩
end L2
namespace L2
open PySem PySem.Spec PyProof.Rows
abbrev R2:=V->V->Hp->VK->Prop
def qJ(X:Cx)(f:Value->Value->Sem Value)(r:R2):Prop:=
 ∀(pins:List (Addr×Obj))(s:Shared)(σ:St)(H:Hp)(x y:V)(v u:Value)(Q:VK),Inv X pins σ H s->RelV x v->RelV y u->r x y H Q->
  wpAny (model X.prog X.w) X.A (f v u) (EP X pins σ Q) X.xe s
def UL(X:Cx)(f:Value->Sem Value)(r:V->Hp->VK->Prop):Prop:=
 ∀(pins:List (Addr×Obj))(s:Shared)(σ:St)(H:Hp)(x:V)(v:Value)(Q:VK),Inv X pins σ H s->RelV x v->r x H Q->
  wpAny (model X.prog X.w) X.A (f v) (EP X pins σ Q) X.xe s
def p6(X:Cx)(f:Value)(r:List V->Hp->VK->Prop):Prop:=
 ∀(pins:List (Addr×Obj))(s:Shared)(σ:St)(H:Hp)(xs:List V)(us:List Value)(Q:VK),Inv X pins σ H s->Vals xs us->r xs H Q->
  wpAny (model X.prog X.w) X.A (call f us) (EP X pins σ Q) X.xe s
def UM(r:R2)(ta tb:TE):TE:=fun σ H Q=>ta σ H fun x H1=>tb σ H1 fun y H2=>r x y H2 Q
def tUn(r:V->Hp->VK->Prop)(ta:TE):TE:=fun σ H Q=>ta σ H fun x H1=>r x H1 Q
def rI(C:Int->Int->Prop)(g:Int->Int->V):R2:=fun x y H Q=>∃i j,x=.int i/\y=.int j/\C i j/\Q (g i j) H
def C0(g:Int->Int->V):R2:=fun x y H Q=>∃i j,x=.int i/\y=.int j/\Q (g i j) H
def rU(g:Int->V):V->Hp->VK->Prop:=fun x H Q=>∃i,x=.int i/\Q (g i) H
section
variable{X:Cx}{a b c:Expr}{ta tb tc:TE}{pos:Pos}
theorem Qo(ha:PE X a ta)(hb:PE X b tb){pins:List (Addr×Obj)}{s:Shared}{σ:St}{H:Hp}{R:V->V->Hp->Prop}(I:Inv X pins σ H s)
  (h:ta σ H fun x H1=>tb σ H1 fun y H2=>R x y H2){Q:Value->Shared->Prop}{f:Value->Value->Sem Value}
  (hf:∀v u s2 x y H2,Inv X pins σ H2 s2->RelV x v->RelV y u->R x y H2->wpAny (model X.prog X.w) X.A (f v u) Q X.xe s2):
  wpAny (model X.prog X.w) X.A (eval a X.env) (fun v s₁=>wpAny (model X.prog X.w) X.A (eval b X.env) (fun u s₂=>wpAny (model X.prog X.w) X.A (f v u) Q X.xe s₂) X.xe s₁) X.xe s:=by
 refine cj (ha pins s σ H _ I h) fun v s1 ⟨x,H1,I1,r1,q1⟩=>?_
 refine cj (hb pins s1 σ H1 _ I1 q1) fun u s2 ⟨y,H2,I2,r2,q2⟩=>?_
 exact hf v u s2 x y H2 I2 r1 r2 q2
theorem qK{op:Operator}{r:R2}(ho:qJ X (binaryOp op) r)(ha:PE X a ta)(hb:PE X b tb):PE X (.BinOp a op b pos) (UM r ta tb):=by
 intro pins s σ H Q I h
 exact wpAny_BinOp (Qo ha hb I h fun v u s2 x y H2 I2 rx ry q=>ho pins s2 σ H2 x y v u Q I2 rx ry q)
theorem C1{op:UnaryOp}{r:V->Hp->VK->Prop}(ho:UL X (unaryOp op) r)(ha:PE X a ta):PE X (.UnaryOp op a pos) (tUn r ta):=by
 intro pins s σ H Q I h
 exact UnaryOp_ (cj (ha pins s σ H _ I h) fun v s1 ⟨x,H1,I1,r1,q1⟩=>ho pins s1 σ H1 x v Q I1 r1 q1)
theorem UN{f:Value->Value->Sem Value}{C:Int->Int->Prop}{g:Int->Int->Int}
  (rule:∀(i j:Int)(t u:Tok)(s:Shared)(Q:Value->Shared->Prop)(E:Value->Shared->Prop),C i j->Q (.int (g i j) s.toks) {s with toks:=s.toks+1}->wpAny (model X.prog X.w) X.A (f (.int i t) (.int j u)) Q E s):
  qJ X f (rI C fun i j=>.int (g i j)):=by
 intro pins s σ H x y v u Q I rx ry h
 obtain⟨i,j,rfl,rfl,hc,q⟩:=h
 obtain⟨t,rfl⟩:=rx
 obtain⟨t',rfl⟩:=ry
 exact rule i j t t' s _ _ hc ⟨.int (g i j),H,I.tok _,⟨_,rfl⟩,q⟩
theorem Qp{f:Value->Value->Sem Value}{g:Int->Int->Int}
  (rule:∀(i j:Int)(t u:Tok)(s:Shared)(Q:Value->Shared->Prop)(E:Value->Shared->Prop),Q (.int (g i j) s.toks) {s with toks:=s.toks+1}->wpAny (model X.prog X.w) X.A (f (.int i t) (.int j u)) Q E s):
  qJ X f (C0 fun i j=>.int (g i j)):=by
 intro pins s σ H x y v u Q I rx ry h
 obtain⟨i,j,rfl,rfl,q⟩:=h
 obtain⟨t,rfl⟩:=rx
 obtain⟨t',rfl⟩:=ry
 exact rule i j t t' s _ _ ⟨.int (g i j),H,I.tok _,⟨_,rfl⟩,q⟩
theorem Qq{f:Value->Value->Sem Value}{g:Int->Int->Bool}
  (rule:∀(i j:Int)(t u:Tok)(s:Shared)(Q:Value->Shared->Prop)(E:Value->Shared->Prop),Q (.bool (g i j)) s->wpAny (model X.prog X.w) X.A (f (.int i t) (.int j u)) Q E s):
  qJ X f (C0 fun i j=>.bl (g i j)):=by
 intro pins s σ H x y v u Q I rx ry h
 obtain⟨i,j,rfl,rfl,q⟩:=h
 obtain⟨t,rfl⟩:=rx
 obtain⟨t',rfl⟩:=ry
 exact rule i j t t' s _ _ ⟨.bl (g i j),H,I,rfl,q⟩
def UO(i j:Int):Prop:=0<j/\j<1073741824
def Fi(i j:Int):Prop:=0<=j/\j<=1000000/\i.natAbs<2^64
def Lw(i j:Int):Prop:=(-(2^64)<i/\i<2^64)\/(-(2^64)<j/\j<2^64)
theorem Lw.ok {i j:Int}(h:Lw i j):IntMulOk i j:=by
 rcases h with⟨h1,h2⟩|⟨h1,h2⟩
 ·exact .of_left (intBits_le_64 h1 h2)
 ·exact .of_right (intBits_le_64 h1 h2)
theorem cY:qJ X (binaryOp .Add) (C0 fun i j=>.int (i+j)):=Qp fun _ _ _ _ _ _ _ q=>add_int q
theorem bX:qJ X (binaryOp .Sub) (C0 fun i j=>.int (i-j)):=Qp fun _ _ _ _ _ _ _ q=>sub_int q
theorem yR:qJ X (binaryOp .Mult) (rI Lw fun i j=>.int (i*j)):=UN fun _ _ _ _ _ _ _ hc q=>mul_int q hc.ok
theorem kB:qJ X (binaryOp .FloorDiv) (rI UO fun i j=>.int (i/j)):=UN fun i j _ _ _ _ _ hc q=>by
 have h1:(0:Int)<j:=hc.1
 have h2:j<1073741824:=hc.2
 exact floordiv_int (by omega) (by rw[Int.fdiv_eq_ediv_of_nonneg i (by omega)];exact q) (.inl (PyProof.noPylong_small (by omega)))
theorem gC:qJ X (binaryOp .Mod) (rI (fun _ j=>0<j) fun i j=>.int (i%j)):=UN fun i j _ _ _ _ _ hc q=>by
 have h1:(0:Int)<j:=hc
 exact mod_int' (by omega) (by rw[Int.fmod_eq_emod_of_nonneg i (by omega)];exact q)
theorem Qs:qJ X (binaryOp .Pow) (rI Fi fun i j=>.int (i^j.toNat)):=UN fun _ _ _ _ _ _ _ hc q=>pow_int_small hc.1 hc.2.1 hc.2.2 q
theorem Qt:qJ X (binaryOp .LShift) (rI Fi fun i j=>.int (i*2^j.toNat)):=UN fun _ _ _ _ _ _ _ hc q=>lshift_int_small hc.1 hc.2.1 hc.2.2 q
theorem Ha:qJ X (binaryOp .BitAnd) (C0 fun i j=>.int (Builtin.bitAnd i j)):=Qp fun _ _ _ _ _ _ _ q=>and_int q
theorem unI{f:Value->Sem Value}{g:Int->Int}
  (rule:∀(i:Int)(t:Tok)(s:Shared)(Q:Value->Shared->Prop)(E:Value->Shared->Prop),Q (.int (g i) s.toks) {s with toks:=s.toks+1}->wpAny (model X.prog X.w) X.A (f (.int i t)) Q E s):
  UL X f (rU fun i=>.int (g i)):=by
 intro pins s σ H x v Q I rx h
 obtain⟨i,rfl,q⟩:=h
 obtain⟨t,rfl⟩:=rx
 exact rule i t s _ _ ⟨.int (g i),H,I.tok _,⟨_,rfl⟩,q⟩
theorem jj:UL X (unaryOp .USub) (rU fun i=>.int (-i)):=unI fun _ _ _ _ _ q=>neg_int q
theorem Hb:UL X (unaryOp .Invert) (rU fun i=>.int (Builtin.bitNot i)):=unI fun _ _ _ _ _ q=>invert_int q
end
def Yt:V->V->Bool
 |.non,.non=>true|.non,.int _=>true|.int _,.non=>true|.non,.bl _=>true|.bl _,.non=>true|.non,.str _=>true|.str _,.non=>true
 |.int _,.int _=>true|.bl _,.bl _=>true|.str _,.str _=>true|.GB _,.GB _=>true
 |.int _,.str _=>true|.str _,.int _=>true|.bl _,.str _=>true|.str _,.bl _=>true
 |_,_=>false
def rEq:R2:=fun x y H Q=>Yt x y=true/\Q (.bl (decide (x=y))) H
theorem Lx{i j:Int}:decide (V.int i=V.int j)=(i==j):=by
 rw[Bool.eq_iff_iff]
 simp
theorem Qu{i j:Bool}:decide (V.bl i=V.bl j)=(i==j):=by
 rw[Bool.eq_iff_iff]
 simp
theorem Ly{i j:Str}:decide (V.str i=V.str j)=(i==j):=by
 rw[Bool.eq_iff_iff]
 simp
theorem Lz{i j:Array UInt8}:decide (V.GB i=V.GB j)=(i.toList==j.toList):=by
 rw[Bool.eq_iff_iff]
 cases i
 cases j
 simp
section
variable{X:Cx}{a b c:Expr}{ta tb tc:TE}{pos:Pos}
theorem eQ{pins:List (Addr×Obj)}{σ:St}{H:Hp}{s:Shared}{Q:VK}{k k':Bool}(I:Inv X pins σ H s)(q:Q (.bl k) H)(e:k=k'):EP X pins σ Q (.bool k') s:=by
 subst e
 exact⟨.bl k,H,I,rfl,q⟩
theorem Hc:qJ X (compareOp .Eq) rEq:=by
 intro pins s σ H x y v u Q I rx ry h
 obtain⟨hs,q⟩:=h
 cases x with
 |non=>
  cases rx
  cases y with
  |non=>cases ry;exact PySem.EqNone.eq_none_none (eQ I q (by simp))
  |bl j=>cases ry;exact PySem.EqNone.eq_none_bool (eQ I q (by simp))
  |int j=>obtain⟨t',rfl⟩:=ry;exact PySem.EqNone.eq_none_int (eQ I q (by simp))
  |str j=>obtain⟨t',rfl⟩:=ry;exact PySem.EqNone.eq_none_str (eQ I q (by simp))
  |_=>exact absurd (show false=true from hs) Bool.false_ne_true
 |bl i=>
  cases rx
  cases y with
  |non=>cases ry;exact PySem.EqNone.eq_bool_none (eQ I q (by simp))
  |bl j=>cases ry;exact eq_bool (eQ I q Qu)
  |str j=>obtain⟨t',rfl⟩:=ry;exact PySem.EqMixed.eq_bool_str (eQ I q (by simp))
  |_=>exact absurd (show false=true from hs) Bool.false_ne_true
 |int i=>
  obtain⟨t,rfl⟩:=rx
  cases y with
  |non=>cases ry;exact PySem.EqNone.eq_int_none (eQ I q (by simp))
  |int j=>obtain⟨t',rfl⟩:=ry;exact eq_int (eQ I q Lx)
  |str j=>obtain⟨t',rfl⟩:=ry;exact PySem.EqMixed.eq_int_str (eQ I q (by simp))
  |_=>exact absurd (show false=true from hs) Bool.false_ne_true
 |str i=>
  obtain⟨t,rfl⟩:=rx
  cases y with
  |non=>cases ry;exact PySem.EqNone.eq_str_none (eQ I q (by simp))
  |bl j=>cases ry;exact PySem.EqMixed.eq_str_bool (eQ I q (by simp))
  |int j=>obtain⟨t',rfl⟩:=ry;exact PySem.EqMixed.eq_str_int (eQ I q (by simp))
  |str j=>obtain⟨t',rfl⟩:=ry;exact eq_str (eQ I q Ly)
  |_=>exact absurd (show false=true from hs) Bool.false_ne_true
 |GB i=>
  obtain⟨t,rfl⟩:=rx
  cases y with
  |GB j=>obtain⟨t',rfl⟩:=ry;exact PySem.W.eq_bytes (eQ I q Lz)
  |_=>exact absurd (show false=true from hs) Bool.false_ne_true
 |_=>cases y<;>exact absurd (show false=true from hs) Bool.false_ne_true
theorem qL:qJ X (compareOp .Lt) (C0 fun i j=>.bl (decide (i<j))):=Qq fun _ _ _ _ _ _ _ q=>lt_int q
theorem NR:qJ X (compareOp .LtE) (C0 fun i j=>.bl (decide (i<=j))):=Qq fun _ _ _ _ _ _ _ q=>le_int q
theorem gj:qJ X (compareOp .Gt) (C0 fun i j=>.bl (decide (j<i))):=Qq fun _ _ _ _ _ _ _ q=>gt_int q
theorem Hd:qJ X (compareOp .Is) (fun x y H Q=>y=.non/\Q (.bl (decide (x=.non))) H):=by
 intro pins s σ H x y v u Q I rx ry h
 obtain⟨rfl,q⟩:=h
 cases ry
 refine is_none_gen (eQ I q ?_)
 cases x<;>first
  |(cases rx;rfl)
  |(obtain⟨t,rfl⟩:=rx;rfl)
theorem yS:qJ X (compareOp .IsNot) (fun x y H Q=>y=.non/\Q (.bl (!decide (x=.non))) H):=by
 intro pins s σ H x y v u Q I rx ry h
 obtain⟨rfl,q⟩:=h
 cases ry
 refine isnot_none_gen (eQ I q ?_)
 cases x<;>first
  |(cases rx;rfl)
  |(obtain⟨t,rfl⟩:=rx;rfl)
theorem aE(b:Expr){op:CmpOp}(h:op≠.In:=by decide)(h2:op≠.NotIn:=by decide):behindInMarks op b=false:=by
 have e1:(op==CmpOp.In)=false:=by cases op<;>first|rfl|exact absurd rfl h
 have e2:(op==CmpOp.NotIn)=false:=by cases op<;>first|rfl|exact absurd rfl h2
 cases b<;>simp[behindInMarks,e1,e2]
theorem LA{op:CmpOp}{r:R2}(ho:qJ X (compareOp op) r)(ha:PE X a ta)(hb:PE X b tb)(hm:behindInMarks op b=false):PE X (.Compare a [op] [b] pos) (UM r ta tb):=by
 intro pins s σ H Q I h
 exact wpAny_Compare1 (Qo ha hb I h fun v u s2 x y H2 I2 rx ry q=>ho pins s2 σ H2 x y v u Q I2 rx ry q) hm
def UQ(t:TE):TT:=fun σ H Q=>t σ H fun x H'=>∃k,x=.bl k/\Q k H'
theorem jB{op:CmpOp}{r:R2}(ho:qJ X (compareOp op) r)(ha:PE X a ta)(hb:PE X b tb)(hm:behindInMarks op b=false):PT X (.Compare a [op] [b] pos) (UQ (UM r ta tb)):=by
 intro pins s σ H Q I h
 refine wpAny_isTrue_Compare1 (cj (ha pins s σ H _ I h) fun v s1 ⟨x,H1,I1,r1,q1⟩=>cj (hb pins s1 σ H1 _ I1 q1) fun u s2 ⟨y,H2,I2,r2,q2⟩=>
  cj (ho pins s2 σ H2 x y v u _ I2 r1 r2 q2) fun c s3 ⟨z,H3,I3,r3,k,e,q3⟩=>?_) hm
 subst e
 cases r3
 exact wpAny_truthy_bool ⟨H3,I3,q3⟩
theorem qm:(sizeLine:Nat)<2^63:=by rw[sizeLine_eq];decide
theorem vals1{x:V}{us:List Value}(r:Vals [x] us):∃u,us=[u]/\RelV x u:=by
 cases r with
 |cons r1 r2=>cases r2;exact⟨_,rfl,r1⟩
theorem vals2{x y:V}{us:List Value}(r:Vals [x,y] us):∃u w',us=[u,w']/\RelV x u/\RelV y w':=by
 cases r with
 |cons r1 r2=>
  cases r2 with
  |cons r3 r4=>cases r4;exact⟨_,_,rfl,r1,r3⟩
theorem lK:p6 X (.builtin "abs") (fun xs H Q=>∃i,xs=[.int i]/\Q (.int (if i<0 then-i else i)) H):=by
 intro pins s σ H xs us Q I r h
 obtain⟨i,rfl,q⟩:=h
 obtain⟨u,rfl,t,rfl⟩:=vals1 r
 exact call_abs_int fun u tk=>⟨.int (if i<0 then-i else i),H,I.tok _,⟨_,rfl⟩,q⟩
theorem Fj(hc:X.calm=true):p6 X (.builtin "max") (fun xs H Q=>∃i j,xs=[.int i,.int j]/\Q (.int (if j>i then j else i)) H):=by
 intro pins s σ H xs us Q I r h
 obtain⟨i,j,rfl,q⟩:=h
 obtain⟨u,w',rfl,⟨t,rfl⟩,⟨t',rfl⟩⟩:=vals2 r
 refine max_two_ints (I.ok.hd hc) fun h' tk k=>⟨_,H,I.kept k,?_,q⟩
 by_cases hj:j>i
 ·rw[if_pos hj,if_pos hj];exact⟨_,rfl⟩
 ·rw[if_neg hj,if_neg hj];exact⟨_,rfl⟩
def UR(K:PySem.W.Frag)(x:V)(H:Hp)(n:Nat):Prop:=
 match x with
 |.str y=>y.length<=sizeLine/\n=y.length
 |.GB y=>y.size<=sizeLine/\n=y.size
 |.ref p=>(∃xs,cX K H p xs/\n=xs.length)\/∃xs,z0 K H p xs/\n=xs.length
 |_=>False
theorem ck:p6 X (.builtin "len") (fun xs H Q=>∃x n,xs=[x]/\UR X.K x H n/\Q (.int n) H):=by
 intro pins s σ H xs us Q I r h
 obtain⟨x,n,rfl,e,q⟩:=h
 obtain⟨u,rfl,rx⟩:=vals1 r
 have hl:=qm
 have hs:sizeLine=16777216:=sizeLine_eq
 cases x with
 |str y=>
  obtain⟨t,rfl⟩:=rx
  obtain⟨hy,e'⟩:y.length<=sizeLine/\n=y.length:=e
  subst e'
  exact len_str (by omega) ⟨.int _,H,I.tok _,⟨_,rfl⟩,q⟩
 |GB y=>
  obtain⟨t,rfl⟩:=rx
  obtain⟨hy,e'⟩:y.size<=sizeLine/\n=y.size:=e
  subst e'
  exact PySem.W.len_bytes (by omega) ⟨.int _,H,I.tok _,⟨_,rfl⟩,q⟩
 |ref p=>
  cases rx
  have e':(∃xs,cX X.K H p xs/\n=xs.length)\/∃xs,z0 X.K H p xs/\n=xs.length:=e
  rcases e' with⟨xs,hx,e'⟩|⟨xs,hx,e'⟩
  ·subst e'
   obtain⟨its,r',pl,hz⟩:=I.list hx
   have hlen:=r'.length
   exact Calls.call_len_list pl.isList (by simp only [size_toArray];omega) ⟨.int xs.length,H,I.tok _,⟨_,by simp only [size_toArray];rw[hlen]⟩,q⟩
  ·subst e'
   obtain⟨its,r',pl,hz⟩:=I.tuple hx
   have hlen:=r'.length
   exact len_tuple pl (by simp only [size_toArray];omega) ⟨.int xs.length,H,I.tok _,⟨_,by simp only [size_toArray];rw[hlen]⟩,q⟩
 |_=>exact(show False from e).elim
end
end L2
namespace L2
open PySem PySem.Spec PyProof.Rows
structure BG(h:Heap)(x dx C:Addr)(mA:Str->Option Value):Prop where
 obj:h.get? x=some (instObj C dx)
 ns:h.Ns1 dx mA
 ne:dx≠x
theorem Fl{h:Heap}{dx:Addr}{mA:Str->Option Value}(n:h.Ns1 dx mA):∃od,h.get? dx=some od/\∀name,lookIn name od=some (mA name):=by
 obtain⟨o,es,ep,ho,hd,hk,_,hm⟩:=n
 refine⟨o,ho,fun name=>?_⟩
 have e:=hm name
 unfold nsFind findBy at e
 rw[<-Array.find?_toList]at e
 unfold lookIn
 rw[hd]
 dsimp only
 split
 ·rename_i y q
  rw[q]at e
  exact congrArg some e
 ·rename_i q
  rw[q]at e
  have a:es.toList.any (·.refKey)=false:=by
   rw[List.any_eq_false]
   intro y hy
   obtain⟨z,t,hkey⟩:=hk y (Array.mem_toList_iff.mp hy)
   simp[DictEntry.refKey,hkey]
  have a':¬es.toList.any (·.refKey)=true:=by rw[a];exact Bool.false_ne_true
  rw[if_neg a']
  exact congrArg some e
theorem BG.look {h:Heap}{x dx C:Addr}{mA:Str->Option Value}(I:BG h x dx C mA):∃od,PySem.W.InstAt h x (instObj C dx) C (some od)/\∀name,lookIn name od=some (mA name):=
 let⟨od,ho,hl⟩:=Fl I.ns
 ⟨od,⟨I.obj,rfl,rfl,ho⟩,hl⟩
section
variable{prog:Program}{w:World}{A:Around}{E:Value->Shared->Prop}{s:Shared}{K:PySem.W.Frag}{x dx C f:Addr}{mA:Str->Option Value}{name:Str}{v:Value}
theorem get_map{expr:Bool}{Q:Value->Shared->Prop}(X:K.In s.heap)(I:BG s.heap x dx C mA)(hg:plainGet K C name=true)(hh:hasDictIn K C=true)
  (ha:findIn K (.ref C) name=some none)(hv:mA name=some v)(hv':handedIn v=true)(h:Q v {s with toks:=s.toks+1}):
  wpAny (model prog w) A (getAttr (.ref x) name expr) Q E s:=by
 obtain⟨od,J,hl⟩:=I.look
 exact PySem.W.get_value X J (plainGet_of hg).1 (PySem.W.findObj_own hh ha rfl (by rw[hl,hv])) hv' h
theorem He{pl:Sem Bool}{Q:Value×List Value->Shared->Prop}(X:K.In s.heap)(I:BG s.heap x dx C mA)(hg:plainGet K C name=true)
  (hf:findIn K (.ref C) name=some (some (.ref f)))(ht:isFn K (.ref f)=true)(hv:mA name=none)(h:Q (.ref f,[.ref x]) s):
  wpAny (model prog w) A (getMethod (.ref x) name pl) Q E s:=by
 obtain⟨od,J,hl⟩:=I.look
 exact PySem.W.method_fn X J (plainGet_of hg).1 (plainGet_of hg).2 hf (beq_iff_eq.mp ht) (by show(lookIn name od).map (·.isSome)=some false;rw[hl,hv];rfl) h
theorem LB{ns:List Str}{Q:Unit->Shared->Prop}(X:K.In s.heap)(I:BG s.heap x dx C mA)
  (hs:findIn K (.ref C) "__setattr__"=some (some (.builtin "object.__setattr__")))(hp:plainOver K C=true)(ht:takerIn K C name=some none)(hh:hasDictIn K C=true)
  (hw:PySem.Within mA ns)(hsz:ns.length<=sizeLine)
  (h:∀h',BG h' x dx C (fun y=>if y=name then some v else mA y)->Heap.SameBut dx s.heap h'->Q () {s with heap:=h',toks:=s.toks+2}):
  wpAny (model prog w) A (setAttr (.ref x) name v) Q E s:=by
 obtain⟨od,J,hl⟩:=I.look
 refine PySem.W.set_plain X J hs (PySem.W.osa_open (s:={s with toks:=s.toks+1}) (r:=none) X J hp ht fun b=>?_)
 obtain⟨cd,hc,Ln⟩:=PySem.W.any_some hh
 have hx:s.heap.get? x=some ⟨.ref C,some dx,.plain,#[]⟩:=I.obj
 refine wpAny_bind (wpAny_pure (wpAny_bind (wpAny_bind (wpAny_loadPart hx (wpAny_bind (Looks.here (s:={s with toks:=s.toks+1}) (PySem.W.looks_clsIn X hc) ?_))))))
 rw[Ln]
 refine wpAny_pure (a:=some dx) (wpAny_bind (wpAny_pure (wpAny_bind ?_)))
 refine wpAny_nsSet1 (s:={s with toks:=s.toks+1}) I.ns fun h' hn2 hs2=>?_
 obtain⟨oD,esD,epD,hoD,hdD,hcD⟩:=hn2.count (PySem.Within.cons name v hw)
 refine wpAny_bind (wpAny_lookBehind hoD (by rw[hdD];exact pastItsLine_dict (le_trans hcD (by rw[length_cons];omega))) ?_)
 exact wpAny_pure (h _ ⟨(hs2.2 _ (Ne.symm I.ne)).trans I.obj,hn2,I.ne⟩ hs2)
theorem Hf{R:Result->Shared->Prop}{vs:List Value}{kw:List (Str×Value)}(X:K.In s.heap)(hm:makesIn K C=true)
  (hi:findIn K (.ref C) "__init__"=some (some (.ref f)))(hf:typeIn K (.ref f)=some (.type "function"))
  (h:codeAny (model prog w) (A.under (.builtin "type.__call__" ⟨.ref C::vs,kw⟩)) (.call (.ref f) ⟨.ref (s.heap.objs.size+1)::vs,kw⟩) (PySem.W.InitBack (s.heap.objs.size+1) R)
   {s with heap:=(s.heap.push emptyDict).push (instObj C s.heap.objs.size)}):
  codeAny (model prog w) A (.call (.ref C) ⟨vs,kw⟩) R s:=by
 obtain⟨hh,g,d,t,os⟩:=s
 exact PySem.W.make_core (PySem.W.makes_of X hm) (PySem.W.looks_findIn X hi) (fun self=>PySem.W.bind_fn X self hf) (.inl rfl) h
end
def jN(f:Str)(v:V):List (Str×V)->List (Str×V)
 |[]=>[(f,v)]
 |(g,x)::r=>if g=f then(g,v)::r else(g,x)::jN f v r
theorem ue(f g:Str)(v:V):∀fs:List (Str×V),(jN f v fs).lookup g=if g=f then some v else fs.lookup g
 |[]=>by
  show List.lookup g [(f,v)]=_
  by_cases h:g=f
  ·have hb:(g==f)=true:=beq_iff_eq.mpr h
   simp only [List.lookup,hb,if_pos h]
  ·have hb:(g==f)=false:=beq_eq_false_iff_ne.mpr h
   simp only [List.lookup,hb,if_neg h]
 |(k,x)::r=>by
  have ih:=ue f g v r
  rw[show jN f v ((k,x)::r)=(if k=f then(k,v)::r else(k,x)::jN f v r)from rfl]
  by_cases hk:k=f
  ·rw[if_pos hk]
   by_cases h:g=k
   ·have hb:(g==k)=true:=beq_iff_eq.mpr h
    simp only [List.lookup,hb,if_pos (h.trans hk)]
   ·have hb:(g==k)=false:=beq_eq_false_iff_ne.mpr h
    simp only [List.lookup,hb,if_neg (fun e:g=f=>h (e.trans hk.symm))]
  ·rw[if_neg hk]
   by_cases h:g=k
   ·have hb:(g==k)=true:=beq_iff_eq.mpr h
    simp only [List.lookup,hb,if_neg (fun e:g=f=>hk (h.symm.trans e))]
   ·have hb:(g==k)=false:=beq_eq_false_iff_ne.mpr h
    simp only [List.lookup,hb]
    exact ih
theorem sI(f:Str)(v:V):∀fs:List (Str×V),f∈(jN f v fs).map (·.1)/\∀g,g∈fs.map (·.1)->g∈(jN f v fs).map (·.1)
 |[]=>⟨by simp[jN],fun g h=>by simp at h⟩
 |(k,x)::r=>by
  obtain⟨i1,i2⟩:=sI f v r
  rw[show jN f v ((k,x)::r)=(if k=f then(k,v)::r else(k,x)::jN f v r)from rfl]
  by_cases hk:k=f
  ·rw[if_pos hk]
   subst hk
   exact⟨by simp,fun g h=>by simpa using h⟩
  ·rw[if_neg hk]
   refine⟨?_,fun g h=>?_⟩
   ·rw[map_cons]
    exact mem_cons_of_mem _ i1
   ·rw[map_cons]at h⊢
    rcases mem_cons.mp h with e|e
    ·exact mem_cons.mpr (.inl e)
    ·exact mem_cons_of_mem _ (i2 g e)
theorem uf(f:Str)(v:V):∀fs:List (Str×V),(jN f v fs).length<=fs.length+1
 |[]=>by simp[jN]
 |(k,x)::r=>by
  have ih:=uf f v r
  rw[show jN f v ((k,x)::r)=(if k=f then(k,v)::r else(k,x)::jN f v r)from rfl]
  by_cases hk:k=f
  ·rw[if_pos hk,length_cons,length_cons];omega
  ·rw[if_neg hk,length_cons,length_cons];omega
theorem nG.some_of {v:V}{o:Option Value}(r:nG (some v) o):∃u,o=some u/\RelV v u:=by
 cases o with
 |none=>exact(show False from r).elim
 |some u=>exact⟨u,rfl,r⟩
theorem nG.none_of {o:Option Value}(r:nG none o):o=none:=by
 cases o with
 |none=>rfl
 |some u=>exact(show False from r).elim
theorem Fo{v:V}{u:Value}(r:RelV v u):handedIn u=true:=by
 cases v with
 |non=>cases (show u=Value.none from r);rfl
 |bl b=>cases (show u=Value.bool b from r);rfl
 |int i=>obtain⟨t,e⟩:=(show∃t,u=Value.int i t from r);cases e;rfl
 |str x=>obtain⟨t,e⟩:=(show∃t,u=Value.str x t from r);cases e;rfl
 |GB b=>obtain⟨t,e⟩:=(show∃t,u=Value.bytes b t from r);cases e;rfl
 |P5 b=>obtain⟨t,e⟩:=(show∃t,u=Value.float b t from r);cases e;rfl
 |ref a=>cases (show u=Value.ref a from r);rfl
 |ty n=>cases (show u=Value.type n from r);rfl
section
variable{P:Program}{w:World}{H H':Hp}{h h':Heap}{a C dx:Addr}{fs fs':List (Str×V)}
theorem uV(hok:pU P w H h)(e:H a=some (.ins C dx fs)):∃mA,BG h a dx C mA/\(∀f,nG (fs.lookup f) (mA f))/\PySem.Within mA (fs.map (·.1))/\fs.length<=1000/\H dx=some (.own a):=by
 obtain⟨d,z,ne,ob,mA,n,r,q⟩:=(show dg P w H h a (.ins C dx fs)from hok a _ e)
 exact⟨mA,⟨ob,n,ne⟩,r,q,z,d⟩
end
structure Hg(K:PySem.W.Frag)(C:Addr):Prop where
 pg:plainGet K C Str.empty=true
 hd:hasDictIn K C=true
 po:plainOver K C=true
 sa:findIn K (.ref C) "__setattr__"=some (some (.builtin "object.__setattr__"))
theorem Hg.get {K:PySem.W.Frag}{C:Addr}(c:Hg K C)(f:Str):plainGet K C f=true:=c.pg
def fG(K:PySem.W.Frag)(C:Addr)(f:Str):Prop:=findIn K (.ref C) f=some none
theorem fG.UT {K:PySem.W.Frag}{C:Addr}{f:Str}(n:fG K C f):takerIn K C f=some none:=by
 unfold takerIn
 rw[show findIn K (.ref C) f=some none from n]
 rfl
structure Meth(K:PySem.W.Frag)(C:Addr)(m:Str)(f:Addr):Prop where
 at_:findIn K (.ref C) m=some (some (.ref f))
 fn:isFn K (.ref f)=true
 kp:keepIn K (.ref f)=true
section
variable{X:Cx}{pins:List (Addr×Obj)}{σ:St}{H:Hp}{s:Shared}{a C dx:Addr}{fs:List (Str×V)}{f:Str}{v:V}{A:Around}{E:Value->Shared->Prop}
theorem BH{b:Bool}{Q:Value->Shared->Prop}(I:Inv X pins σ H s)(e:H a=some (.ins C dx fs))(c:Hg X.K C)(n:fG X.K C f)(l:fs.lookup f=some v)
  (h:∀u s',Inv X pins σ H s'->RelV v u->Q u s'):wpAny (model X.prog X.w) A (getAttr (.ref a) f b) Q E s:=by
 obtain⟨mA,O,r,_,_,_⟩:=uV I.hok e
 obtain⟨u,hu,ru⟩:=nG.some_of (v:=v) (o:=mA f) (by rw[<-l];exact r f)
 exact get_map I.sF O (c.get f) c.hd n hu (Fo ru) (h u _ (I.tok _) ru)
theorem vL{m:Str}{g:Addr}{pl:Sem Bool}{Q:Value×List Value->Shared->Prop}(I:Inv X pins σ H s)(e:H a=some (.ins C dx fs))(c:Hg X.K C)(k:Meth X.K C m g)(l:fs.lookup m=none)
  (h:Q (.ref g,[.ref a]) s):wpAny (model X.prog X.w) A (getMethod (.ref a) m pl) Q E s:=by
 obtain⟨mA,O,r,_,_,_⟩:=uV I.hok e
 have hn:mA m=none:=nG.none_of (by rw[<-l];exact r m)
 exact He I.sF O (c.get m) k.at_ k.fn hn h
theorem BI{y:V}{u:Value}{Q:Unit->Shared->Prop}(I:Inv X pins σ H s)(e:H a=some (.ins C dx fs))(c:Hg X.K C)(n:fG X.K C f)(hl:fs.length<1000)(ry:RelV y u)
  (h:∀s',Inv X pins σ (upd H a (.ins C dx (jN f y fs))) s'->Q () s'):wpAny (model X.prog X.w) A (setAttr (.ref a) f u) Q E s:=by
 obtain⟨mA,O,r,wi,_,ho⟩:=uV I.hok e
 have hz:(fs.map (·.1)).length<=sizeLine:=by rw[length_map,sizeLine_eq];omega
 refine LB I.sF O c.sa c.po n.UT c.hd wi hz fun h' O' sb=>h _ ?_
 have hd:∃o,h'.get? dx=some o:=let⟨o,_,_,e',_⟩:=O'.ns;⟨o,e'⟩
 refine I.write (x:=a) (e:=dx) (by rw[e];exact True.intro) (.inr ho) (fun b q hb z=>(sb.2 b hb).trans z) hd ?_
 refine⟨by rw[ai O.ne];exact ho,?_,O.ne,O'.obj,_,O'.ns,fun g=>?_,fun g hg=>?_⟩
 ·have:=uf f y fs;omega
 ·show nG ((jN f y fs).lookup g) (if g=f then some u else mA g)
  rw[ue]
  by_cases q:g=f
  ·rw[if_pos q,if_pos q];exact ry
  ·rw[if_neg q,if_neg q];exact r g
 ·by_cases q:g=f
  ·rw[q];exact(sI f y fs).1
  ·refine(sI f y fs).2 g (wi g fun z=>hg ?_)
   show(if g=f then some u else mA g)=none
   rw[if_neg q];exact z
theorem Inv.made (I:Inv X pins σ H s):Inv X pins σ (upd (upd H s.heap.objs.size (.own (s.heap.objs.size+1))) (s.heap.objs.size+1) (.ins C s.heap.objs.size []))
  {s with heap:=(s.heap.push emptyDict).push (instObj C s.heap.objs.size)}:=by
 have e1:(s.heap.push emptyDict).get? s.heap.objs.size=some emptyDict:=Heap.get?_push_size s.heap rfl
 have e2:((s.heap.push emptyDict).push (instObj C s.heap.objs.size)).get? (s.heap.objs.size+1)=some (instObj C s.heap.objs.size):=by
  have:=Heap.get?_push_size (s.heap.push emptyDict) (o:=instObj C s.heap.objs.size) rfl
  rwa [Heap.size_push]at this
 have e3:(s.heap.push emptyDict).Ns s.heap.objs.size (fun _=>none):=⟨emptyDict,#[],_,e1,rfl,(fun e he=>absurd he (by simp)),fun _=>rfl⟩
 have I1:=I.laid (a:=s.heap.objs.size) (o:=.own (s.heap.objs.size+1)) (h':=s.heap.push emptyDict) (t':=s.toks) (fun b u q=>Heap.get?_push_of_some _ q) (Nat.le_refl _) ⟨_,e1⟩
 refine I1.laid (a:=s.heap.objs.size+1) (o:=.ins C s.heap.objs.size []) (t':=s.toks) (fun b u q=>Heap.get?_push_of_some _ q) (le_of_eq (Heap.size_push _ _)) ?_
 have ne:s.heap.objs.size≠s.heap.objs.size+1:=ne_of_lt (lt_succ_self _)
 refine⟨by rw[ai ne,ar],zero_le _,ne,e2,fun _=>none,(Heap.Ns1.of_empty e3).at fun o q=>Heap.get?_push_of_some _ q,fun _=>True.intro,fun y hy=>absurd rfl hy⟩
theorem LC{prog:Program}{w:World}{env:Env}{e:Expr}{f:Str}{pos:Pos}{s:Shared}{Q:Value->Shared->Prop}(hb:attributeBase e f env (eval e env)=eval e env)
  (h:wpAny (model prog w) A (eval e env) (fun o s₁=>wpAny (model prog w) A (getAttr o f true) Q E s₁) E s):wpAny (model prog w) A (eval (.Attribute e f pos) env) Q E s:=
 Attribute_any_ h (by rw[arm_eval_Attribute,hb])
end
def UU(K:PySem.W.Frag)(ta:TE)(f:Str):TE:=fun σ H Q=>ta σ H fun x H1=>∃a C dx fs v,x=.ref a/\H1 a=some (.ins C dx fs)/\Hg K C/\fG K C f/\fs.lookup f=some v/\Q v H1
def Yu(K:PySem.W.Frag)(ta tv:TE)(f:Str):TS:=fun D σ H=>tv σ H fun y H1=>ta σ H1 fun x H2=>∃a C dx fs,x=.ref a/\H2 a=some (.ins C dx fs)/\Hg K C/\fG K C f/\fs.length<1000/\
 D.nx σ (upd H2 a (.ins C dx (jN f y fs)))
section
variable{X:Cx}{o e value:Expr}{f:Str}{pos pos' Yv:Pos}{ta tv:TE}
theorem bD(he:PE X e ta)(hb:attributeBase e f X.env (eval e X.env)=eval e X.env):PE X (.Attribute e f pos) (UU X.K ta f):=by
 intro pins s σ H Q I h
 refine LC hb (cj (he pins s σ H _ I h) fun u s1 ⟨x,H1,I1,rx,a,C,dx,fs,v,ex,ea,c,n,l,q⟩=>?_)
 subst ex
 obtain rfl:u=Value.ref a:=rx
 exact BH I1 ea c n l fun u' s2 I2 ru=>⟨v,H1,I2,ru,q⟩
theorem lh(ha:PE X o ta)(hv:PE X value tv)(hs:swapsWith value (some (.Attribute o f pos')) pos.line X.env=pure false):PS X (.Assign [.Attribute o f pos'] value pos) (Yu X.K ta tv f):=by
 intro pins s σ H D I h
 refine plainObj_wpAny_Assign_Attribute (cj (hv pins s σ H _ I h) fun u s1 ⟨y,H1,I1,ry,q⟩=>cj (ha pins s1 σ H1 _ I1 q) fun ov s2 ⟨x,H2,I2,rx,a,C,dx,fs,ex,ea,c,n,l,q2⟩=>?_) hs
 subst ex
 obtain rfl:ov=Value.ref a:=rx
 exact BI I2 ea c n l ry fun s3 I3=>⟨σ,_,I3,q2⟩
end
section
variable{X:Cx}{pins:List (Addr×Obj)}{σ:St}{H:Hp}{s:Shared}{A:Around}{E:Value->Shared->Prop}{Q:Value->Shared->Prop}{c:Value}{b:Bool}
inductive uB (K:PySem.W.Frag) (H:Hp):V->Value->Prop where
 |non:uB K H .non (.type "NoneType")
 |bl (x:Bool):uB K H (.bl x) (.type "bool")
 |int (i:Int):uB K H (.int i) (.type "int")
 |str (x:Str):uB K H (.str x) (.type "str")
 |P5 (x:UInt64):uB K H (.P5 x) (.type "float")
 |lst {a:Addr} {xs:List V} (e:H a=some (.lst xs)):uB K H (.ref a) (.type "list")
 |xB {a:Addr} {o:Obj} {xs:List V} (e:H a=some (.xB o (.lst xs))):uB K H (.ref a) (.type "list")
 |tup {a:Addr} {xs:List V} (e:H a=some (.tup xs)):uB K H (.ref a) (.type "tuple")
 |dK {a:Addr} {kvs:List (Key×V)} (e:H a=some (.dK kvs)):uB K H (.ref a) (.type "dict")
 |dT {a:Addr} {kvs:List (List Key×V)} (e:H a=some (.dT kvs)):uB K H (.ref a) (.type "dict")
 |ins {a C dx:Addr} {fs:List (Str×V)} (e:H a=some (.ins C dx fs)) (cl:Hg K C) (ha:findIn K (.ref C) "__class__"=some (some (.builtin "object.__class__")))
   (hn:PySem.W.specialIn K (.builtin "object.__class__") "__get__"=some (some (.builtin "getset_descriptor.__get__"))) (htk:PySem.W.takesIn K (.builtin "object.__class__")=some true)
   (hm:mroIn K C (.type "object")=some true):uB K H (.ref a) (.ref C)
theorem o6{x:V}{u t:Value}(I:Inv X pins σ H s)(rx:RelV x u)(ty:uB X.K H x t)(e:kitOne X.K t c=some b)(h:∀tk,Q (.bool b) {s with toks:=tk}):
  wpAny (model X.prog X.w) A (call (.builtin "isinstance") [u,c]) Q E s:=by
 cases ty with
 |non=>cases (show u=Value.none from rx);exact kia_one PySem.W.kitx_none I.sF True.intro e (fun z=>nomatch z) h
 |bl y=>cases (show u=Value.bool y from rx);exact kia_one PySem.W.kitx_bool I.sF True.intro e (fun z=>nomatch z) h
 |int i=>obtain⟨t,q⟩:=(show∃t,u=Value.int i t from rx);cases q;exact kia_one PySem.W.kitx_int I.sF True.intro e (fun z=>nomatch z) h
 |str y=>obtain⟨t,q⟩:=(show∃t,u=Value.str y t from rx);cases q;exact kia_one PySem.W.kitx_str I.sF True.intro e (fun z=>nomatch z) h
 |P5 y=>obtain⟨t,q⟩:=(show∃t,u=Value.float y t from rx);cases q;exact kia_one PySem.W.kitx_float I.sF True.intro e (fun z=>nomatch z) h
 | @lst a xs ea=>
  cases (show u=Value.ref a from rx)
  obtain⟨_,_,n,_,h1⟩:=(show dg X.prog X.w H s.heap a (.lst xs)from I.hok a _ ea)
  exact kia_one kitx_list I.sF ⟨_,h1,rfl⟩ e (fun z=>nomatch z) h
 | @xB a ob xs ea=>
  cases (show u=Value.ref a from rx)
  obtain⟨_,_,_,n,_,h1⟩:=(show dg X.prog X.w H s.heap a (.xB ob (.lst xs))from I.hok a _ ea)
  exact kia_one kitx_list I.sF ⟨_,h1,rfl⟩ e (fun z=>nomatch z) h
 | @tup a xs ea=>
  cases (show u=Value.ref a from rx)
  obtain⟨_,_,_,p⟩:=(show dg X.prog X.w H s.heap a (.tup xs)from I.hok a _ ea)
  obtain⟨o,h1,h2,_⟩:=p
  exact kia_one kitx_tuple I.sF ⟨o,h1,h2⟩ e (fun z=>nomatch z) h
 | @dK a kvs ea=>
  cases (show u=Value.ref a from rx)
  obtain⟨_,_,vs,_,p⟩:=(show dg X.prog X.w H s.heap a (.dK kvs)from I.hok a _ ea)
  obtain⟨o,es,ep,h1,h2,_⟩:=p
  exact kia_one kitx_dict I.sF ⟨o,h1,h2.1⟩ e (fun z=>nomatch z) h
 | @dT a kvs ea=>
  cases (show u=Value.ref a from rx)
  obtain⟨_,_,xs,_,o,es,ep,h1,h2,_⟩:=(show dg X.prog X.w H s.heap a (.dT kvs)from I.hok a _ ea)
  exact kia_one kitx_dict I.sF ⟨o,h1,h2.1⟩ e (fun z=>nomatch z) h
 | @ins a C dx fs ea cl ha hn htk hm=>
  cases (show u=Value.ref a from rx)
  obtain⟨mA,O,_⟩:=uV I.hok ea
  obtain⟨od,J,_⟩:=O.look
  exact kia_one (PySem.W.kitx_own (cl.get _) cl.hd ha hn htk hm) I.sF J e (fun z=>nomatch z) h
end
end L2
namespace L2
open PySem PySem.Spec PyProof.Rows
structure aZ(k:Nat)(A:Around):Prop where
 hd:A.handled=none
 dp:A.depth+3*k+5<recursionLimit
 un:A.units+16*k+200<cLine
theorem aZ.mono {j k:Nat}{A:Around}(r:aZ k A)(h:j<=k):aZ j A:=⟨r.hd,by have:=r.dp;omega,by have:=r.un;omega⟩
theorem aZ.deeper {k:Nat}{A:Around}(r:aZ (k+1) A)(env:Env):aZ k (A.deeper env):=
 ⟨r.hd,by have:=r.dp;show A.depth+1+3*k+5<_;omega,by have:=r.un;show A.units+3+16*k+200<_;omega⟩
theorem BJ{A:Around}{C:Addr}{us:List Value}{kw:List (Str×Value)}:(A.under (.builtin "type.__call__" ⟨.ref C::us,kw⟩)).depth=A.depth+1:=by
 first|rfl|simp[Around.under,Code.weight,Code.isCreation,Code.isGuard,Code.isCaller,Code.frames,Code.isFrame,guardIds]
theorem BK{A:Around}{C:Addr}{us:List Value}{kw:List (Str×Value)}:(A.under (.builtin "type.__call__" ⟨.ref C::us,kw⟩)).units=A.units+1:=by
 first|rfl|simp[Around.under,Code.cUnits,Code.frames,Code.isFrame]
theorem aZ.make {k:Nat}{A:Around}(r:aZ (k+1) A)(C:Addr)(us:List Value)(kw:List (Str×Value)):aZ k (A.under (.builtin "type.__call__" ⟨.ref C::us,kw⟩)):=
 ⟨r.hd,by have:=r.dp;rw[BJ];omega,by have:=r.un;rw[BK];omega⟩
theorem aZ.depth {k:Nat}{A:Around}(r:aZ k A):A.depth<recursionLimit:=by have:=r.dp;omega
theorem aZ.units {k:Nat}{A:Around}(r:aZ k A):A.units+64<cLine:=by have:=r.un;omega
def Qw:TA:=fun _ H Q=>Q [] H
def NS(ta:TE)(tr:TA):TA:=fun σ H Q=>ta σ H fun x H1=>tr σ H1 fun xs H2=>Q (x::xs) H2
section
variable{X:Cx}{e:Expr}{es:List Expr}{te:TE}{t:TA}{pos:Pos}
theorem aN:PA X [] Qw:=fun _ _ _ _ H Q I h=>Calls.spliced_nil ⟨[],H,I,.nil,h⟩
theorem aB(ha:PE X e te)(hr:PA X es t)(hs:starEach (e::es) X.env=(false,eval e X.env)::starEach es X.env:=by rfl):PA X (e::es) (NS te t):=by
 intro pos pins s σ H Q I h
 rw[hs]
 show wpAny _ _ (spliced ((false,eval e X.env)::backTo pos (starEach es X.env))) _ _ s
 refine Calls.spliced_cons (cj (ha pins s σ H _ I h) fun u s1 ⟨x,H1,I1,r1,q1⟩=>?_)
 exact cj (hr pos pins s1 σ H1 _ I1 q1) fun us s2 ⟨xs,H2,I2,r2,q2⟩=>⟨x::xs,H2,I2,.cons r1 r2,q2⟩
def Yw(t:TA):TE:=fun σ H Q=>t σ H fun xs H1=>xs.length<=sizeLine/\∀p,H1 p=none->Q (.ref p) (upd H1 p (.tup xs))
def Yx(t:TA):TE:=fun σ H Q=>t σ H fun xs H1=>xs.length<=sizeLine/\∀p,H1 p=none->Q (.ref p) (upd H1 p (.lst xs))
theorem sJ{x1}(h:PA X es t):PE X (.Tuple es x1 pos) (Yw t):=by
 intro pins s σ H Q I hq
 refine wpAny_Tuple_spliced (cj (h pos pins s σ H _ I hq) fun us s1 ⟨xs,H1,I1,r,z,q⟩=>⟨by rw[<-r.length];exact z,?_⟩)
 have hf:H1 s1.heap.objs.size=none:=I1.hok.fresh (Nat.le_refl _)
 refine⟨.ref s1.heap.objs.size,upd H1 s1.heap.objs.size (.tup xs),I1.laid (t':=s1.toks) (fun b u e=>Heap.get?_push_of_some _ e) (Nat.le_refl _) ?_,rfl,q _ hf⟩
 exact⟨z,us,r,⟨_,Heap.get?_push_size _ rfl,rfl,_,rfl⟩⟩
theorem sL(h:PA X es t):PE X (.List es pos) (Yx t):=by
 intro pins s σ H Q I hq
 refine wpAny_List_spliced (cj (h pos pins s σ H _ I hq) fun us s1 ⟨xs,H1,I1,r,z,q⟩=>⟨by rw[<-r.length];exact z,?_⟩)
 have hf:H1 s1.heap.objs.size=none:=I1.hok.fresh (Nat.le_refl _)
 refine⟨.ref s1.heap.objs.size,upd H1 s1.heap.objs.size (.lst xs),I1.laid (t':=s1.toks) (fun b u e=>Heap.get?_push_of_some _ e) (Nat.le_refl _) ?_,rfl,q _ hf⟩
 exact⟨z,us,0,r,Heap.get?_push_size _ rfl⟩
end
abbrev Sp:=List V->Hp->VK->XK->Prop
abbrev GD:=List Env->Hp->Shared->XK->Value->Shared->Prop
structure BL(P:Program)(w:World)(K:PySem.W.Frag)(mg:Str->Option Value)(base:Heap)(A:Around)(outer:List Env)(s:Shared)(H:Hp):Prop where
 frames:A.frames=some outer
 mod:Mod K mg base
 bs:∀b o,base.get? b=some o->s.heap.get? b=some o/\H b=none
 K0:base.objs.size<=s.heap.objs.size
 sE:s.heap.FunFrames base outer
 NN:∀b∈Bt outer,H b=none
 hok:pU P w H s.heap
 bare:AllBare s.gens
def CE(outer:List Env)(P:Program)(w:World)(H:Hp)(s:Shared)(Q:VK)(u:Value)(s':Shared):Prop:=
 ∃v H',s'.os=s.os/\AllBare s'.gens/\Un (Bt outer) [] H H' s.heap s'.heap/\pU P w H' s'.heap/\RelV v u/\Q v H'
def CR(CX:GD)(outer:List Env)(P:Program)(w:World)(H:Hp)(s:Shared)(Q:VK)(E:XK)(r:Result)(s':Shared):Prop:=
 match r with
 |.ok (.ret u)=>CE outer P w H s Q u s'
 |.ok _=>False
 |.error e=>CX outer H s E e s'
structure cu(P:Program)(w:World)(K:PySem.W.Frag)(mg:Str->Option Value)(base:Heap)(CX:GD)(k:Nat)(f:Addr)(fd:FuncData)(ps:List Str)(sp:Sp):Prop where
 len:∀vs H Q E,sp vs H Q E->vs.length=ps.length
 run:∀(A:Around)(outer:List Env)(s:Shared)(H:Hp)(args:Args)(us:List Value)(vs:List V)(Q:VK)(E:XK),aZ k A->BL P w K mg base A outer s H->BindsTo s fd args (ps.zip us)->Vals vs us->sp vs H Q E->
  codeAny (model P w) A (.call (.ref f) args) (CR CX outer P w H s Q E) s
theorem BL.make {P:Program}{w:World}{K:PySem.W.Frag}{mg:Str->Option Value}{base:Heap}{A:Around}{outer:List Env}{s:Shared}{H:Hp}(e:BL P w K mg base A outer s H)(C:Addr)(us:List Value)(kw:List (Str×Value)):
  BL P w K mg base (A.under (.builtin "type.__call__" ⟨.ref C::us,kw⟩)) outer s H:=⟨by first|exact e.frames|(simpa[Around.under,Code.envs,Code.isFrame,pushEnvs]using e.frames),e.mod,e.bs,e.K0,e.sE,e.NN,e.hok,e.bare⟩
section
variable{X:Cx}{pins:List (Addr×Obj)}{σ:St}{H:Hp}{s s':Shared}
theorem Inv.UW (I:Inv X pins σ H s):BL X.prog X.w X.K X.mg X.base X.A X.stack s H:=
 ⟨I.ok.frames,I.ok.mod,I.bs,le_trans I.ok.K0 I.sz,I.stack,I.CW,I.hok,I.bare⟩
theorem Inv.after {Q:VK}{u:Value}(I:Inv X pins σ H s)(h:CE X.stack X.prog X.w H s Q u s'):EP X pins σ Q u s':=by
 obtain⟨v,H',os,bare,un,hok,r,q⟩:=h
 obtain⟨hh,g,d,t,jh⟩:=s'
 obtain rfl:jh=s.os:=os
 exact⟨v,H',I.call (h':=hh) (g':=g) (d':=d) (t':=t) (ch:=[]) un hok bare (fun b z=>absurd z (by simp)),r,q⟩
end
def UX(sp:Sp)(xD:List V)(E:XK)(t:TA):TE:=fun σ H Q=>t σ H fun vs H1=>sp (vs++xD) H1 Q E
def NT(C:Addr)(m:Str)(sp:Sp)(xD:List V)(E:XK)(ta:TE)(t:TA):TE:=fun σ H Q=>ta σ H fun x H1=>∃a dx fs,x=.ref a/\H1 a=some (.ins C dx fs)/\fs.lookup m=none/\
 t σ H1 fun vs H2=>sp (x::(vs++xD)) H2 Q E
def UY(C:Addr)(sp:Sp)(xD:List V)(E:XK)(t:TA):TE:=fun σ H Q=>t σ H fun vs H1=>∀x dx,H1 x=none->H1 dx=none->dx≠x->
 sp (.ref x::(vs++xD)) (upd (upd H1 dx (.own x)) x (.ins C dx [])) (fun v H2=>v=.non/\Q (.ref x) H2) E
def Binds(K:PySem.W.Frag)(fd:FuncData)(ps:List Str)(ds:List Value):Prop:=
 ∀(s:Shared)(us:List Value),K.In s.heap->(us++ds).length=ps.length->BindsTo s fd ⟨us,[]⟩ (ps.zip (us++ds))
theorem Binds.all {K:PySem.W.Frag}{fd:FuncData}{ps:List Str}(h:∀us:List Value,us.length=ps.length->bindArgs fd ⟨us,[]⟩=pure (ps.zip us)):Binds K fd ps []:=fun s us _ hl=>by
 rw[append_nil]at hl⊢
 exact .of_eq (h us hl)
def Passes(CX:GD)(X:Cx)(E:XK):Prop:=∀(pins:List (Addr×Obj))(σ:St)(H:Hp)(s:Shared)(e:Value)(s':Shared),Inv X pins σ H s->CX X.stack H s E e s'->X.xe e s'
section
variable{X:Cx}{CX:GD}{k:Nat}{f C:Addr}{fd:FuncData}{ps:List Str}{sp:Sp}{xD:List V}{ds:List Value}{E:XK}{x m:Str}{p pos apos:Pos}{e o:Expr}{es:List Expr}{ta:TE}{t:TA}
theorem BN{pins:List (Addr×Obj)}{σ:St}{H:Hp}{s:Shared}{Q:VK}{us:List Value}{vs:List V}(F:cu X.prog X.w X.K X.mg X.base CX k f fd ps sp)(hr:aZ k X.A)(hb:Binds X.K fd ps ds)(hd:Vals xD ds)(hx:Passes CX X E)
  (I:Inv X pins σ H s)(r:Vals vs us)(h:sp (vs++xD) H Q E):wpAny (model X.prog X.w) X.A (call (.ref f) us) (EP X pins σ Q) X.xe s:=by
 have r2:Vals (vs++xD) (us++ds):=r.append hd
 have hl:(us++ds).length=ps.length:=by rw[<-r2.length];exact F.len _ _ _ _ h
 refine wpAny_call (codeAny_mono (F.run X.A X.stack s H ⟨us,[]⟩ (us++ds) (vs++xD) Q E hr I.UW (hb s us I.sF hl) r2 h) fun r s' hq=>?_)
 cases r with
 |error e=>exact hx pins σ H s e s' I hq
 |ok fl=>
  cases fl with
  |ret u=>exact I.after hq
  |next=>exact False.elim hq
  |brk=>exact False.elim hq
  |cont=>exact False.elim hq
theorem dZ(F:cu X.prog X.w X.K X.mg X.base CX k f fd ps sp)(hr:aZ k X.A)(hg:Gl X x)(hm:X.mg x=some (.ref f))(hk:keepIn X.K (.ref f)=true)(hb:Binds X.K fd ps ds)(hd:Vals xD ds)(hx:Passes CX X E)
  (ha:PA X (e::es) t)(hdb:(x==("__debug__":Str))=false:=by decide)(he:starEach (e::es) X.env=(false,eval e X.env)::starEach es X.env:=by rfl)(hpl:(backTo pos (starEach es X.env)).any (·.1)=false:=by rfl):
  PE X (.Call (.Name x p) (e::es) [] pos) (UX sp xD E t):=by
 intro pins s σ H Q I h
 refine wpAny_Call_Name_kw (yP I hg hm ?_ hdb)
 refine callWith_K (h₀:=X.base) I.ok.mod.Uw hk (cj (ha pos pins s σ H _ I h) fun us s1 ⟨vs,H1,I1,r,q⟩=>⟨I1.sF,?_⟩) he hpl
 exact BN F hr hb hd hx I1 r q
theorem iN{pl:Sem Bool}(he:PE X o ta)(c:Hg X.K C)(hm:Meth X.K C m f)(F:cu X.prog X.w X.K X.mg X.base CX k f fd ps sp)(hr:aZ k X.A)(hb:Binds X.K fd ps ds)(hd:Vals xD ds)(hx:Passes CX X E)(ha:PA X (e::es) t)
  (hst:starEach (e::es) X.env=(false,eval e X.env)::starEach es X.env:=by rfl)(hpl:(backTo pos (starEach es X.env)).any (·.1)=false:=by rfl)
  (ht:eval (.Call (.Attribute o m apos) (e::es) [] pos) X.env=(do
   let ov<-eval o X.env
   standAt apos.atName
   let(f,first)<-holding [ov] (getMethod ov m pl)
   callWith pos f first (backTo pos (starEach (e::es) X.env)) (backToKw pos (keywordEach [] X.env))):=by rfl):
  PE X (.Call (.Attribute o m apos) (e::es) [] pos) (NT C m sp xD E ta t):=by
 intro pins s σ H Q I h
 refine methodCall_KW (pl:=pl) (cj (he pins s σ H _ I h) fun u s1 ⟨x,H1,I1,rx,a,dx,fs,ex,ea,l,q⟩=>?_) ht
 subst ex
 obtain rfl:u=Value.ref a:=rx
 refine vL I1 ea c hm l ?_
 refine callWith_K (first:=[.ref a]) (h₀:=X.base) I.ok.mod.Uw hm.kp (cj (ha pos pins s1 σ H1 _ I1 q) fun us s2 ⟨vs,H2,I2,r,q2⟩=>⟨I2.sF,?_⟩) hst hpl
 exact BN (us:=.ref a::us) (vs:=.ref a::vs) F hr hb hd hx I2 (.cons rfl r) q2
theorem Hh{pl:Sem Bool}(he:PE X o ta)(c:Hg X.K C)(hm:Meth X.K C m f)(F:cu X.prog X.w X.K X.mg X.base CX k f fd ps sp)(hr:aZ k X.A)(hb:Binds X.K fd ps ds)(hd:Vals xD ds)(hx:Passes CX X E)
  (ht:eval (.Call (.Attribute o m apos) [] [] pos) X.env=(do
   let ov<-eval o X.env
   standAt apos.atName
   let(f,first)<-holding [ov] (getMethod ov m pl)
   callWith pos f first (backTo pos (starEach [] X.env)) (backToKw pos (keywordEach [] X.env))):=by rfl):
  PE X (.Call (.Attribute o m apos) [] [] pos) (NT C m sp xD E ta Qw):=by
 intro pins s σ H Q I h
 refine methodCall_KW (pl:=pl) (cj (he pins s σ H _ I h) fun u s1 ⟨x,H1,I1,rx,a,dx,fs,ex,ea,l,q⟩=>?_) ht
 subst ex
 obtain rfl:u=Value.ref a:=rx
 refine vL I1 ea c hm l ?_
 exact PySem.W.callWith_K0 (first:=[.ref a]) I1.sF hm.kp (BN (us:=[.ref a]) (vs:=[.ref a]) F hr hb hd hx I1 (.cons rfl .nil) q)
structure Mk(K:PySem.W.Frag)(C f:Addr):Prop where
 makes:makesIn K C=true
 init:findIn K (.ref C) "__init__"=some (some (.ref f))
 fn:isFn K (.ref f)=true
 kp:keepIn K (.ref C)=true
theorem Hi{pins:List (Addr×Obj)}{σ:St}{H:Hp}{s:Shared}{Q:VK}{us:List Value}{vs:List V}(M:Mk X.K C f)(F:cu X.prog X.w X.K X.mg X.base CX k f fd ps sp)(hr:aZ (k+1) X.A)(hb:Binds X.K fd ps ds)(hd:Vals xD ds)
  (hx:Passes CX X E)(I:Inv X pins σ H s)(r:Vals vs us)
  (h:∀x dx,H x=none->H dx=none->dx≠x->sp (.ref x::(vs++xD)) (upd (upd H dx (.own x)) x (.ins C dx [])) (fun v H2=>v=.non/\Q (.ref x) H2) E):
  wpAny (model X.prog X.w) X.A (call (.ref C) us) (EP X pins σ Q) X.xe s:=by
 have hq:=h (s.heap.objs.size+1) s.heap.objs.size (I.hok.fresh (le_succ _)) (I.hok.fresh (Nat.le_refl _)) (ne_of_lt (lt_succ_self _))
 have I2:=Inv.made (C:=C) I
 have r2:Vals (V.ref (s.heap.objs.size+1)::(vs++xD)) (Value.ref (s.heap.objs.size+1)::(us++ds)):=.cons rfl (r.append hd)
 have hl:(Value.ref (s.heap.objs.size+1)::us++ds).length=ps.length:=by
  have e:=r2.length
  rw[F.len _ _ _ _ hq]at e
  exact e.symm
 refine wpAny_call (Hf (f:=f) I.sF M.makes M.init (beq_iff_eq.mp M.fn) (codeAny_mono (F.run _ X.stack _ _ ⟨Value.ref (s.heap.objs.size+1)::us,[]⟩ (Value.ref (s.heap.objs.size+1)::(us++ds)) _ _ E (hr.make C us [])
  (I2.UW.make C us []) (hb _ (Value.ref (s.heap.objs.size+1)::us) I2.sF hl) r2 hq) fun r s' BO=>?_))
 cases r with
 |error e=>exact hx pins σ _ _ e s' I2 BO
 |ok fl=>
  cases fl with
  |ret u=>
   obtain⟨v,H',I3,rv,ev,q3⟩:=I2.after BO
   subst ev
   exact⟨rv,⟨V.ref (s.heap.objs.size+1),H',I3,rfl,q3⟩⟩
  |next=>exact False.elim BO
  |brk=>exact False.elim BO
  |cont=>exact False.elim BO
theorem LD(M:Mk X.K C f)(F:cu X.prog X.w X.K X.mg X.base CX k f fd ps sp)(hr:aZ (k+1) X.A)(hg:Gl X x)(hm:X.mg x=some (.ref C))(hb:Binds X.K fd ps ds)(hd:Vals xD ds)(hx:Passes CX X E)
  (ha:PA X (e::es) t)(hdb:(x==("__debug__":Str))=false:=by decide)(he:starEach (e::es) X.env=(false,eval e X.env)::starEach es X.env:=by rfl)(hpl:(backTo pos (starEach es X.env)).any (·.1)=false:=by rfl):
  PE X (.Call (.Name x p) (e::es) [] pos) (UY C sp xD E t):=by
 intro pins s σ H Q I h
 refine wpAny_Call_Name_kw (yP I hg hm ?_ hdb)
 refine callWith_K (h₀:=X.base) I.ok.mod.Uw M.kp (cj (ha pos pins s σ H _ I h) fun us s1 ⟨vs,H1,I1,r,q⟩=>⟨I1.sF,?_⟩) he hpl
 exact Hi M F hr hb hd hx I1 r q
end
structure aD(N P:List Str)(sc:Scope):Prop where
 kind:sc.kind=.function
 co:sc.isCoroutine=false
 gen:sc.isGenerator=false
 nd:N.Nodup
 pre:N.take P.length=P
 par:∀x∈P,sc.names.lookup x=some .local\/sc.names.lookup x=some .cell
 Qx:∀y∈sc.names,y.2≠.free
theorem x9{kindOf:Str->Option NameKind}{x:Str}:∀{binds:List (Str×Value)}{m:Str->Option Value},(∀v,(x,v)∉binds)->bindL kindOf binds m x=m x
 |[],_,_=>rfl
 |(n,v)::r,m,h=>by
  unfold bindL
  rw[x9 fun w hw=>h w (mem_cons_of_mem _ hw)]
  split
  ·have:x≠n:=by rintro rfl;exact h v mem_cons_self
   simp[this]
  ·rfl
theorem ya{kindOf:Str->Option NameKind}{x:Str}:∀{binds:List (Str×Value)}{m:Str->Option Value},(∀v,(x,v)∉binds)->bindC kindOf binds m x=m x
 |[],_,_=>rfl
 |(n,v)::r,m,h=>by
  unfold bindC
  rw[ya fun w hw=>h w (mem_cons_of_mem _ hw)]
  split
  ·rfl
  ·have:x≠n:=by rintro rfl;exact h v mem_cons_self
   simp[this]
theorem yb{kindOf:Str->Option NameKind}{x:Str}{v:Value}:∀{P:List Str}{vs:List Value}{i:Nat}{m:Str->Option Value},P.Nodup->P[i]?=some x->vs[i]?=some v->kindOf x=some .local->
  bindL kindOf (P.zip vs) m x=some v
 |[],_,_,_,_,h,_,_=>by simp at h
 |_::_,[],_,_,_,_,h,_=>by simp at h
 |p::P,w::vs,0,m,nd,h1,h2,hk=>by
  simp at h1 h2;subst h1;subst h2
  show bindL kindOf ((p,w)::P.zip vs) m p=_
  unfold bindL
  rw[x9 fun v hv=>(nodup_cons.mp nd).1 (of_mem_zip hv).1,if_pos hk]
  simp
 |p::P,w::vs,i+1,m,nd,h1,h2,hk=>by
  show bindL kindOf ((p,w)::P.zip vs) m x=_
  unfold bindL
  exact yb (i:=i) (nodup_cons.mp nd).2 (by simpa using h1) (by simpa using h2) hk
theorem yc{kindOf:Str->Option NameKind}{x:Str}{v:Value}:∀{P:List Str}{vs:List Value}{i:Nat}{m:Str->Option Value},P.Nodup->P[i]?=some x->vs[i]?=some v->kindOf x≠some .local->
  bindC kindOf (P.zip vs) m x=some v
 |[],_,_,_,_,h,_,_=>by simp at h
 |_::_,[],_,_,_,_,h,_=>by simp at h
 |p::P,w::vs,0,m,nd,h1,h2,hk=>by
  simp at h1 h2;subst h1;subst h2
  show bindC kindOf ((p,w)::P.zip vs) m p=_
  unfold bindC
  rw[ya fun v hv=>(nodup_cons.mp nd).1 (of_mem_zip hv).1,if_neg hk]
  simp
 |p::P,w::vs,i+1,m,nd,h1,h2,hk=>by
  show bindC kindOf ((p,w)::P.zip vs) m x=_
  unfold bindC
  exact yc (i:=i) (nodup_cons.mp nd).2 (by simpa using h1) (by simpa using h2) hk
def start(N:List Str)(vs:List V):St:=vs.map some++replicate (N.length-vs.length) none
def qo(CX:GD)(P:Program)(w:World)(K:PySem.W.Frag)(mg:Str->Option Value)(base:Heap)(N:List Str)(qual:Str)(scope:Scope)(f:Addr)(cd:Value)(A:Around)(outer:List Env)(s:Shared)(H:Hp)(E:XK):Cx where
 prog:=P
 w:=w
 K:=K
 mg:=mg
 base:=base
 A:=A.deeper (envOfC qual scope s.heap.objs.size f cd)
 N:=N
 s₀:=s
 H₀:=H
 env:=envOfC qual scope s.heap.objs.size f cd
 outer:=outer
 stack:=envOfC qual scope s.heap.objs.size f cd::outer
 ex:=[]
 calm:=true
 fn:=fun _=>true
 pn:=[]
 xe:=fun e s'=>wpAny (model P w) (A.deeper (envOfC qual scope s.heap.objs.size f cd)) (leaving (envOfC qual scope s.heap.objs.size f cd) e) (fun _ Yy=>CX outer H s E e Yy) (fun e' Yy=>CX outer H s E e' Yy) s'
theorem z4{sc:Scope}{n:Nat}{x:Str}(h:sc.names.lookup x=some .cell):∃c,(cellsFrom n sc.names []).lookup x=some c:=by
 have q:=cellsFrom_some sc.names n [] (.inl h)
 exact Option.isSome_iff_exists.mp q
theorem Fp{CX:GD}{P:Program}{w:World}{K:PySem.W.Frag}{mg:Str->Option Value}{base:Heap}{N ps:List Str}{qual:Str}{scope:Scope}{f:Addr}{cd:Value}{A:Around}{outer:List Env}{s s1:Shared}{H:Hp}{E:XK}{us:List Value}{vs:List V}
  (S:aD N ps scope)(hd:A.handled=none)(e0:BL P w K mg base A outer s H)(hl:vs.length=ps.length)(r:Vals vs us)
  (x:InCallC s s.heap.objs.size (bindL (envOfC qual scope s.heap.objs.size f cd).kindOf (ps.zip us) fun _=>none) (cellsFrom (s.heap.objs.size+1) scope.names []) (bindC (envOfC qual scope s.heap.objs.size f cd).kindOf (ps.zip us) fun _=>none) s1):
  Inv (qo CX P w K mg base N qual scope f cd A outer s H E) [] (start N vs) H s1:=by
 have hpl:ps.length<=N.length:=by have:=congrArg length S.pre;rw[length_take]at this;omega
 obtain⟨h1,tk,rfl,hk⟩:=x.done
 have UZ:∀b:Addr,b∉(qo CX P w K mg base N qual scope f cd A outer s H E).ex:=fun b z=>absurd (show b∈([]:List Addr)from z) (by simp)
 refine⟨⟨e0.mod,S.kind,rfl,rfl,Nat.le_refl _,fun y z c h1 h2=>?_,fun y hy=>?_,fun y c _ h=>?_,fun _=>hd,Around.frames_deeper e0.frames,.inr ⟨rfl,rfl⟩,fun b z=>absurd z (UZ b),e0.bs,e0.K0,fun b _ _=>UZ b,fun b z=>absurd z (UZ b),e0.sE,e0.NN⟩,
  rfl,e0.bare,Un.kept hk,⟨_,x.toInCall.ns,fun i y v h1 h2 h3=>?_⟩,fun y c h=>⟨_,x.cell y c h⟩,e0.hok.fresh (Nat.le_refl _),fun y c h=>?_,fun p hp=>absurd (show p∈([]:List (Addr×Obj))from hp) (by simp),e0.hok.kept hk,?_⟩
 ·exact name_of_addr x.apart (PySem.mem_of_lookup h1) (PySem.mem_of_lookup h2)
 ·have hy:scope.names.lookup y=some .cell\/scope.names.lookup y=some .free:=hy
  rcases hy with hy|hy
  ·exact z4 hy
  ·exact absurd rfl (S.Qx _ (PySem.mem_of_lookup hy))
 ·exact Nat.le_of_lt (x.above y c (PySem.mem_of_lookup h))
 ·have hi:i<vs.length:=by
   unfold start at h2
   by_cases hi:i<vs.length
   ·exact hi
   ·rw[getElem?_append_right (by simpa using hi)]at h2
    rw[getElem?_replicate]at h2
    split at h2<;>cases h2
  have ha:vs[i]?=some v:=by
   unfold start at h2
   rw[getElem?_append_left (by simpa using hi),getElem?_map]at h2
   cases e:vs[i]? with
   |none=>rw[e]at h2;cases h2
   |some a=>rw[e]at h2;cases h2;rfl
  obtain⟨u,hu,rv⟩:=r.get ha
  have hp:ps[i]?=some y:=by
   rw[<-S.pre,List.getElem?_take_of_lt (by omega)];exact h1
  have ndP:ps.Nodup:=by rw[<-S.pre];exact S.nd.sublist (List.take_sublist _ _)
  refine⟨u,rv,?_⟩
  rcases S.par y (mem_of_getElem? hp)with k|k
  ·exact .inl ⟨k,yb ndP hp hu k⟩
  ·obtain⟨c,e⟩:=z4 (n:=s.heap.objs.size+1) k
   refine .inr ⟨.inl k,c,e,?_⟩
   have q:=x.cell y c e
   rw[yc ndP hp hu (by show scope.names.lookup y≠_;rw[k];decide)]at q
   exact q
 ·exact e0.hok.fresh (Nat.le_of_lt (x.above y c (PySem.mem_of_lookup h)))
 ·unfold start
  show _=N.length
  rw[length_append,length_map,length_replicate]
  omega
theorem U0{CX:GD}{P:Program}{w:World}{K:PySem.W.Frag}{mg:Str->Option Value}{base:Heap}{k:Nat}{f:Addr}{name qual:Str}{params:Arguments}{body:List Stmt}{scope:Scope}{dV kV doc pm cdv ct oc:Value}{an od:Option Addr}
  {GF:Array (Option Value)}{N ps:List Str}{sp:Sp}(lk:K.lookup f=some ⟨oc,od,.func (PySem.W.fnOf name qual params body scope dV kV doc pm an cdv ct),GF⟩)(hcd:codeIn K cdv qual=true)(S:aD N ps scope)
  (len:∀vs H Q E,sp vs H Q E->vs.length=ps.length)
  (hbody:∀(A:Around)(outer:List Env)(s:Shared)(H:Hp)(vs:List V)(Q:VK)(E:XK),aZ k (A.deeper (envOfC qual scope s.heap.objs.size f cdv))->sp vs H Q E->
   ∃t,ql (qo CX P w K mg base N qual scope f cdv A outer s H E) body t/\t {nx:=fun _ H'=>Q .non H',rt:=Q} (start N vs) H):
  cu P w K mg base CX (k+1) f (PySem.W.fnOf name qual params body scope dV kV doc pm an cdv ct) ps sp:=by
 refine⟨len,fun A outer s H args us vs Q E hr e0 hb r xE=>?_⟩
 have hl:=len _ _ _ _ xE
 have KX:K.In s.heap:=e0.mod.Uw.keeps fun b o e=>(e0.bs b o e).1
 have lim:s.heap.NoLimit:=e0.mod.nolimit.keeps fun b o e=>(e0.bs b o e).1
 have hkind:∀y∈ps.zip us,scope.names.lookup y.1=some .local\/(scope.names.lookup y.1=some .cell/\((cellsFrom (s.heap.objs.size+1) scope.names []).lookup y.1).isSome=true):=fun⟨n,v⟩ hy=>by
  rcases S.par n (of_mem_zip hy).1 with q|q
  ·exact .inl q
  ·exact .inr ⟨q,cellsFrom_some _ _ _ (.inl q)⟩
 refine codeAny_call_function hr.depth (KX _ _ lk) rfl S.co S.gen rfl (PySem.W.codeRec_of KX hcd) (hb _ _ _ _ ?_)
 refine wpAny_newFunctionEnv_cells S.kind hkind fun env he s1 x=>?_
 subst he
 refine⟨lim.keeps x.toInCall.keep,codeAny_func ?_⟩
 obtain⟨t,ht,hq⟩:=hbody A outer s H vs Q E (hr.deeper _) xE
 have I:Inv (qo CX P w K mg base N qual scope f cdv A outer s H E) [] (start N vs) H s1:=Fp S hr.hd e0 hl r x
 refine wpAny_mono (ht [] s1 (start N vs) H _ I hq) (fun fl s' hs=>?_) fun e s' hs=>hs
 have fin:∀{σ':St}{H':Hp}{v:V}{u:Value},Inv (qo CX P w K mg base N qual scope f cdv A outer s H E) [] σ' H' s'->RelV v u->Q v H'->CE outer P w H s Q u s':=
  fun{σ' H' v u} J rv q=>⟨v,H',J.os,J.bare,J.base,J.hok,rv,q⟩
 cases fl with
 |ret u=>
  obtain⟨v,σ',H',J,rv,q⟩:=hs
  exact fin J rv q
 |next=>
  obtain⟨σ',H',J,q⟩:=hs
  exact fin (v:=V.non) (u:=Value.none) J rfl q
 |brk=>
  obtain⟨_,_,_,q⟩:=hs
  exact False.elim q
 |cont=>
  obtain⟨_,_,_,q⟩:=hs
  exact False.elim q
end L2
namespace L2
open PySem PySem.Spec PyProof.Rows
section
variable{X:Cx}{x:Str}{p pos:Pos}{e:Expr}{es:List Expr}{t:TA}{id T:String}{r:List V->Hp->VK->Prop}
def Yz(r:List V->Hp->VK->Prop)(t:TA):TE:=fun σ H Q=>t σ H fun vs H1=>r vs H1 Q
theorem i7(hc:p6 X (.builtin id) r)(hg:Gl X x)(hm:X.mg x=none)(hv:bootBuiltins x=some (.builtin id))(ha:PA X (e::es) t)(hn:x≠"__name__":=by decide)(hdb:(x==("__debug__":Str))=false:=by decide)
  (he:starEach (e::es) X.env=(false,eval e X.env)::starEach es X.env:=by rfl)(hpl:(backTo pos (starEach es X.env)).any (·.1)=false:=by rfl):PE X (.Call (.Name x p) (e::es) [] pos) (Yz r t):=by
 intro pins s σ H Q I h
 refine wpAny_Call_Name_kw (iD I hg hm hv ?_ hn hdb)
 exact PyProof.Rows.callWith_builtin1 (cj (ha pos pins s σ H _ I h) fun us s1 ⟨vs,H1,I1,r1,q1⟩=>hc pins s1 σ H1 vs us Q I1 r1 q1) he hpl
theorem o7(hc:p6 X (.type T) r)(hg:Gl X x)(hm:X.mg x=none)(hv:bootBuiltins x=some (.type T))(ha:PA X (e::es) t)(hn:x≠"__name__":=by decide)(hdb:(x==("__debug__":Str))=false:=by decide)
  (he:starEach (e::es) X.env=(false,eval e X.env)::starEach es X.env:=by rfl)(hpl:(backTo pos (starEach es X.env)).any (·.1)=false:=by rfl):PE X (.Call (.Name x p) (e::es) [] pos) (Yz r t):=by
 intro pins s σ H Q I h
 refine wpAny_Call_Name_kw (iD I hg hm hv ?_ hn hdb)
 exact PyProof.Rows.callWith_type1 (cj (ha pos pins s σ H _ I h) fun us s1 ⟨vs,H1,I1,r1,q1⟩=>hc pins s1 σ H1 vs us Q I1 r1 q1) he hpl
end
end L2
namespace HT
open PySem PyProof.Rows
section
open PySem.SeqAt
open PySem.AutoSeq1 (wpAny_loadPart')
open PySem.MeetsSeq PySem.MeetsSeq2 PySem.MeetsSeq3
end
section
variable{prog:Program}{w:World}{A:Around}{E:Value->Shared->Prop}{s:Shared}
def vM(n d:Nat):Option Int->Nat
 |none=>d
 |some v=>if v<0 then(v+(n:Int)).toNat else min v.toNat n
theorem nS(n d:Nat):vM n d none=d:=rfl
theorem jC(n d k:Nat):vM n d (some (k:Int))=min k n:=by
 show(if(k:Int)<0 then((k:Int)+(n:Int)).toNat else min (k:Int).toNat n)=min k n
 rw[if_neg (by omega),toNat_natCast]
end
end HT
namespace L2
open PySem PySem.Spec PyProof.Rows
abbrev TO:=St->Hp->(Option Int->Hp->Prop)->Prop
def PO(X:Cx)(e:Option Expr)(t:TO):Prop:=
 ∀(pins:List (Addr×Obj))(s:Shared)(σ:St)(H:Hp)(Q:Option Int->Hp->Prop),Inv X pins σ H s->t σ H Q->
  wpAny (model X.prog X.w) X.A (evalPart e X.env) (fun u s'=>∃o H',Inv X pins σ H' s'/\IsPart u o/\Q o H') X.xe s
def LG:TO:=fun _ H Q=>Q none H
def U1(t:TE):TO:=fun σ H Q=>t σ H fun x H1=>∃i,x=.int i/\Q (some i) H1
theorem intsAre_of{ns:List Int}:∀{us:List Value},Vals (ns.map V.int) us->IntsAre us ns:=by
 induction ns with
 |nil=>intro us r;rw[map_nil]at r;cases r;exact .nil
 |cons n ns ih=>
  intro us r
  rw[map_cons]at r
  cases r with
  |cons r1 r2=>
   obtain⟨t,e⟩:=r1
   subst e
   exact .cons n t (ih r2)
section
variable{X:Cx}{e:Expr}{te:TE}{lo hi:Option Expr}{tl th:TO}{pos p2:Pos}
theorem C2:PO X none LG:=by
 intro pins s σ H Q I h
 rw[evalPart_none]
 exact wpAny_pure ⟨none,H,I,.none,h⟩
theorem C3(h:PE X e te):PO X (some e) (U1 te):=by
 intro pins s σ H Q I hw
 rw[evalPart_some]
 refine cj (h pins s σ H _ I hw) fun u s1 ⟨x,H1,I1,r1,q1⟩=>?_
 obtain⟨i,rfl,q⟩:=q1
 obtain⟨t,rfl⟩:=r1
 exact⟨some i,H1,I1,.int i t,q⟩
def SlR(X:Cx)(r:V->Option Int->Option Int->Hp->VK->Prop):Prop:=
 ∀(pins:List (Addr×Obj))(s:Shared)(σ:St)(H:Hp)(x:V)(v vl vu:Value)(lo hi:Option Int)(sl:Addr)(Q:VK),Inv X pins σ H s->RelV x v->s.heap.IsSliceOf sl vl vu .none->IsPart vl lo->IsPart vu hi->r x lo hi H Q->
  ∃T id,typeLookup (.type T) "__getitem__"=pure (some (.builtin id))/\s.TypeIs v T/\wpAny (model X.prog X.w) X.A (getItem v (.ref sl)) (EP X pins σ Q) X.xe s
def tSl(r:V->Option Int->Option Int->Hp->VK->Prop)(te:TE)(tl th:TO):TE:=fun σ H Q=>te σ H fun x H1=>tl σ H1 fun l H2=>th σ H2 fun u H3=>r x l u H3 Q
theorem z5{r:V->Option Int->Option Int->Hp->VK->Prop}(hr:SlR X r)(he:PE X e te)(hl:PO X lo tl)(hu:PO X hi th):PE X (.Subscript e (.Slice lo hi none p2) pos) (tSl r te tl th):=by
 intro pins s σ H Q I h
 refine Subscript_ (cj (he pins s σ H _ I h) fun v s1 ⟨x,H1,I1,r1,q1⟩=>?_)
 refine wpAny_Slice (cj (hl pins s1 σ H1 _ I1 q1) fun vl s2 ⟨l,H2,I2,pl,q2⟩=>cj (hu pins s2 σ H2 _ I2 q2) fun vu s3 ⟨u,H3,I3,pu,q3⟩=>?_)
 rw[evalPart_none]
 refine wpAny_pure ?_
 have I4:Inv X pins σ H3 {s3 with heap:=s3.heap.push {cls:=.type "slice",data:=.fields #[vl,vu,.none]}}:=I3.kept (t':=s3.toks) fun b ob q=>Heap.get?_push_of_some _ q
 obtain⟨T,id,hT,ht,hg⟩:=hr pins {s3 with heap:=s3.heap.push {cls:=.type "slice",data:=.fields #[vl,vu,.none]}} σ H3 x v vl vu l u s3.heap.objs.size Q I4 r1 (Heap.IsSliceOf.new ..) pl pu q3
 show wpAny (model X.prog X.w) X.A (subscriptTail e (.Slice lo hi none p2) v (.ref s3.heap.objs.size)) (EP X pins σ Q) X.xe {s3 with heap:=s3.heap.push {cls:=.type "slice",data:=.fields #[vl,vu,.none]}}
 exact tail_any (ops:=[.ref s3.heap.objs.size,v]) ht hT hg (by with_unfolding_all rfl)
def xF(xs:List V)(lo hi:Option Int):List V:=(xs.drop (HT.vM xs.length 0 lo)).take (HT.vM xs.length xs.length hi-HT.vM xs.length 0 lo)
theorem z6(xs:List V)(lo hi:Option Int):(xF xs lo hi).length<=xs.length:=by
 unfold xF
 rw[length_take,length_drop]
 omega
end
end L2
namespace L2
open PySem PySem.Spec PyProof.Rows
def qH(n:Nat)(i:Int):Option Nat:=if 0<=i then(if i<n then some i.toNat else none)else if-(n:Int)<=i then some (i+n).toNat else none
def ig{α:Type}(xs:List α)(i:Int):Option α:=(qH xs.length i).bind fun j=>xs[j]?
theorem C4{n:Nat}{i:Int}{j:Nat}(h:qH n i=some j):seqIndex? i n=some j/\j<n/\ -(n:Int)<=i/\i<n:=by
 unfold qH at h
 by_cases h0:0<=i
 ·rw[if_pos h0]at h
  by_cases h1:i<n
  ·rw[if_pos h1]at h
   have e:i.toNat=j:=Option.some.inj h
   exact⟨by rw[seqIndex_of h0 h1,e],by omega,by omega,h1⟩
  ·rw[if_neg h1]at h;cases h
 ·rw[if_neg h0]at h
  by_cases h1: -(n:Int)<=i
  ·rw[if_pos h1]at h
   have e:(i+n).toNat=j:=Option.some.inj h
   exact⟨by rw[seqIndex_neg (by omega) h1,e],by omega,h1,by omega⟩
  ·rw[if_neg h1]at h;cases h
theorem yT{α:Type}{xs:List α}{i:Int}{v:α}(h:ig xs i=some v):∃j,seqIndex? i xs.length=some j/\xs[j]?=some v/\j<xs.length/\ -(xs.length:Int)<=i/\i<xs.length:=by
 unfold ig at h
 cases e:qH xs.length i with
 |none=>rw[e]at h;cases h
 |some j=>
  rw[e]at h
  obtain⟨h1,h2,h3,h4⟩:=C4 e
  exact⟨j,h1,h,h2,h3,h4⟩
theorem iO{α:Type}{xs:List α}{j:Nat}{v:α}(h:xs[j]?=some v):ig xs (j:Int)=some v:=by
 have hj:j<xs.length:=(List.getElem?_eq_some_iff.mp h).1
 have e:qH xs.length (j:Int)=some j:=by
  unfold qH
  rw[if_pos (by omega),if_pos (by omega)];simp
 unfold ig;rw[e];exact h
theorem vN{α:Type}(xs:List α)(v:α):ig (xs++[v]) (-1)=some v:=by
 have hl:(xs++[v]).length=xs.length+1:=by simp
 have e:qH (xs++[v]).length (-1)=some xs.length:=by
  unfold qH
  rw[hl,if_neg (by decide),if_pos (by omega)]
  congr 1
  omega
 unfold ig
 rw[e]
 show(xs++[v])[xs.length]?=some v
 simp
def uW(b:Expr):Prop:=∀o i,subscripted b false o i=operate [o,i] (getItem o i)
def LH(X:Cx)(r:R2):Prop:=
 ∀(value slice:Expr)(pins:List (Addr×Obj))(s:Shared)(σ:St)(H:Hp)(x y:V)(v u:Value)(Q:VK),Inv X pins σ H s->RelV x v->RelV y u->r x y H Q->
  subscripted slice false v u=operate [v,u] (getItem v u)->wpAny (model X.prog X.w) X.A (subscriptTail value slice v u) (EP X pins σ Q) X.xe s
def Xj(X:Cx)(id:String)(r:V->List V->Hp->VK->Prop):Prop:=
 ∀(pins:List (Addr×Obj))(s:Shared)(σ:St)(H:Hp)(x:V)(xs:List V)(v:Value)(us:List Value)(Q:VK),Inv X pins σ H s->RelV x v->Vals xs us->r x xs H Q->
  wpAny (model X.prog X.w) X.A (call (.builtin id) (v::us)) (EP X pins σ Q) X.xe s
section
variable{X:Cx}{a b:Expr}{ta tb:TE}{pos:Pos}
theorem LH.or {r r':R2}(h:LH X r)(h':LH X r'):LH X (fun x y H Q=>r x y H Q\/r' x y H Q):=by
 intro value slice pins s σ H x y v u Q I rx ry q hs
 rcases q with q|q
 ·exact h value slice pins s σ H x y v u Q I rx ry q hs
 ·exact h' value slice pins s σ H x y v u Q I rx ry q hs
theorem ik{r:R2}(hr:LH X r)(ha:PE X a ta)(hb:PE X b tb)(hs:uW b):PE X (.Subscript a b pos) (UM r ta tb):=by
 intro pins s σ H Q I h
 exact Subscript_ (Qo ha hb I h fun v u s2 x y H2 I2 rx ry q=>hr a b pins s2 σ H2 x y v u Q I2 rx ry q (hs _ _))
def Qy(K:PySem.W.Frag):R2:=fun x y H Q=>∃p xs i v,x=.ref p/\y=.int i/\cX K H p xs/\ig xs i=some v/\Q v H
def U3(K:PySem.W.Frag):R2:=fun x y H Q=>∃p xs i v,x=.ref p/\y=.int i/\z0 K H p xs/\ig xs i=some v/\Q v H
def U4:R2:=fun x y H Q=>∃z i c,x=.str z/\y=.int i/\z.length<=sizeLine/\ig z.cps.toList i=some c/\Q (.str ⟨#[c]⟩) H
theorem dG:LH X (Qy X.K):=by
 intro value slice pins s σ H x y v u Q I rx ry h hs
 obtain⟨p,xs,i,z,rfl,rfl,hq,he,q⟩:=h
 cases rx
 obtain⟨t,rfl⟩:=ry
 obtain⟨its,r,pl,hz⟩:=I.list hq
 obtain⟨j,h1,h2,h3,h4,h5⟩:=yT he
 obtain⟨w,ew,nQ⟩:=r.get h2
 have hl:=r.length
 have hn:=qm
 have fin:EP X pins σ Q w s:=⟨z,H,I,nQ,q⟩
 by_cases h0:0<=i
 ·have hj:i.toNat=j:=by
   rw[seqIndex_of h0 h5]at h1
   exact Option.some.inj h1
  exact item_listR pl.isList h0 (by omega) (by rw[hj];simpa using ew) fin hs
 ·have hj:(i+(its.toArray.size:Int)).toNat=j:=by
   rw[seqIndex_neg (by omega) h4]at h1
   rw[size_toArray,<-hl]
   exact Option.some.inj h1
  exact subscriptTail_builtinR (x:=w) pl.isList.typeIs slot_list_getitem.lookup
   (wpAny_getItem_list_neg (Q:=fun r s'=>r=w/\EP X pins σ Q r s') pl.isList (by omega) (by rw[size_toArray]<;>omega) (by omega) (by rw[hj];simpa using ew) ⟨rfl,fin⟩) hs
theorem yU:LH X (U3 X.K):=by
 intro value slice pins s σ H x y v u Q I rx ry h hs
 obtain⟨p,xs,i,z,rfl,rfl,hq,he,q⟩:=h
 cases rx
 obtain⟨t,rfl⟩:=ry
 obtain⟨its,r,pl,hz⟩:=I.tuple hq
 obtain⟨j,h1,h2,h3,h4,h5⟩:=yT he
 obtain⟨w,ew,nQ⟩:=r.get h2
 have hl:=r.length
 have hn:=qm
 have fin:EP X pins σ Q w s:=⟨z,H,I,nQ,q⟩
 exact subscriptTail_builtinR (x:=w) pl.typeIs slot_tuple_getitem.lookup
  (getItem_tuple (j:=j) (Q:=fun r s'=>r=w/\EP X pins σ Q r s') pl (by omega) (by omega) (by rw[size_toArray,<-hl];exact h1) (by simpa using ew) ⟨rfl,fin⟩) hs
theorem Qz:LH X U4:=by
 intro value slice pins s σ H x y v u Q I rx ry h hs
 obtain⟨z,i,c,rfl,rfl,hz,he,q⟩:=h
 obtain⟨t,rfl⟩:=rx
 obtain⟨t',rfl⟩:=ry
 obtain⟨j,h1,h2,h3,h4,h5⟩:=yT he
 have hl:z.cps.toList.length=z.length:=by simp[Str.length]
 rw[hl]at h1 h4 h5
 have hn:=qm
 exact tail_any (typeIs_str s z t) slot_str_getitem.lookup (getItem_str (c:=c) (by
  have e1:decide (i< -(2^63:Int))=false:=decide_eq_false (by omega)
  have e2:decide (i>=2^63)=false:=decide_eq_false (by omega)
  rw[e1,e2,Bool.or_false]) (by rw[h1];simpa using h2) ⟨.str ⟨#[c]⟩,H,I.tok _,⟨_,rfl⟩,q⟩) hs
def rIx(K:PySem.W.Frag):R2:=fun x y H Q=>Qy K x y H Q\/U3 K x y H Q\/U4 x y H Q
theorem QA:LH X (rIx X.K):=dG.or (yU.or Qz)
theorem BP(its:List Value)(n j:Nat)(u:Value):Obj.mapSeq (·.setIfInBounds j u) {cls:=.type "list",data:=.seq its.toArray n}={cls:=.type "list",data:=.seq (its.set j u).toArray n}:=by
 simp[Obj.mapSeq]
theorem Inv.lst {pins:List (Addr×Obj)}{σ:St}{H:Hp}{s:Shared}{p:Addr}{xs:List V}(I:Inv X pins σ H s)(h:H p=some (.lst xs)):
  ∃(its:List Value)(n:Nat),Vals xs its/\s.heap.get? p=some {cls:=.type "list",data:=.seq its.toArray n}/\xs.length<=sizeLine:=by
 obtain⟨z,its,n,r,e⟩:=I.hok p _ h
 exact⟨its,n,r,e,z⟩
theorem Inv.QB {pins:List (Addr×Obj)}{σ:St}{H:Hp}{s:Shared}{p:Addr}{xs ys:List V}{its its':List Value}{n n':Nat}{f:Obj->Obj}(I:Inv X pins σ H s)(h:H p=some (.lst xs))
  (ho:s.heap.get? p=some {cls:=.type "list",data:=.seq its.toArray n})(hf:f {cls:=.type "list",data:=.seq its.toArray n}={cls:=.type "list",data:=.seq its'.toArray n'})(r:Vals ys its')(hz:ys.length<=sizeLine)(t:Nat):
  Inv X pins σ (upd H p (.lst ys)) {s with heap:=s.heap.update p f,toks:=t}:=by
 have e:(s.heap.update p f).get? p=some {cls:=.type "list",data:=.seq its'.toArray n'}:=by
  rw[Heap.get?_update_self f ho (by rw[hf]<;>rfl),hf]
 refine I.write (x:=p) (e:=p) (by rw[h];trivial) (.inl rfl) (fun b u hb q=>(Heap.get?_update_other _ _ (Ne.symm hb)).trans q) ⟨_,e⟩ ?_
 exact⟨hz,its',n',r,e⟩
def U5:V->V->V->Hp->(Hp->Prop)->Prop:=fun o i v H Q=>∃p xs k j,o=.ref p/\i=.int k/\H p=some (.lst xs)/\qH xs.length k=some j/\Q (upd H p (.lst (xs.set j v)))
theorem set_list:UE X U5:=by
 intro pins s σ H o i v ov iv u Q I ro ri rv h
 obtain⟨p,xs,k,j,rfl,rfl,hp,hj,q⟩:=h
 cases ro
 obtain⟨t,rfl⟩:=ri
 obtain⟨its,n,r,ho,hz⟩:=I.lst hp
 obtain⟨h1,h2,h3,h4⟩:=C4 hj
 have hl:=r.length
 have hn:=qm
 have I':Inv X pins σ (upd H p (.lst (xs.set j v))) {s with heap:=s.heap.update p (Obj.mapSeq (·.setIfInBounds j u))}:=
  I.QB hp ho (BP its n j u) (r.set rv j) (by rw[length_set];exact hz) s.toks
 by_cases h0:0<=k
 ·have hk:k.toNat=j:=by
   rw[seqIndex_of h0 h4]at h1
   exact Option.some.inj h1
  exact PySem.W.ki_setAt ho h0 (by omega) (by rw[size_toArray,<-hl];exact h4) (by rw[hk];exact⟨_,I',q⟩)
 ·have hk:(k+(its.toArray.size:Int)).toNat=j:=by
   rw[seqIndex_neg (by omega) h3]at h1
   rw[size_toArray,<-hl]
   exact Option.some.inj h1
  exact PySem.W.ki_setBack ho (by omega) (by rw[size_toArray,<-hl];exact h3) (by omega) (by rw[hk];exact⟨_,I',q⟩)
theorem yV(lo hi:Option Int)(n:Nat):(sliceBounds lo hi none n).1=((HT.vM n 0 lo:Nat):Int)/\(sliceBounds lo hi none n).2.1=((HT.vM n n hi:Nat):Int)/\(sliceBounds lo hi none n).2.2=1:=by
 refine⟨?_,?_,rfl⟩
 ·cases lo with
  |none=>simp[sliceBounds,HT.vM]
  |some i=>
   simp only [sliceBounds,HT.vM,getD_none,show(1:Int)>0 by decide,if_true]
   by_cases h:i<0
   ·simp only [h,if_true]<;>omega
   ·simp only [h,if_false]<;>omega
 ·cases hi with
  |none=>simp[sliceBounds,HT.vM]
  |some i=>
   simp only [sliceBounds,HT.vM,getD_none,show(1:Int)>0 by decide,if_true]
   by_cases h:i<0
   ·simp only [h,if_true]<;>omega
   ·simp only [h,if_false]<;>omega
theorem xG(its:List Value)(lo hi:Option Int):slicePick its.toArray lo hi none=((its.drop (HT.vM its.length 0 lo)).take (HT.vM its.length its.length hi-HT.vM its.length 0 lo)).toArray:=by
 obtain⟨h1,h2,h3⟩:=yV lo hi its.toArray.size
 unfold slicePick
 rw[h1,h2,h3]
 simp only [sliceRange_one,pick_run,size_toArray]<;>rfl
def YA(K:PySem.W.Frag):V->Option Int->Option Int->Hp->VK->Prop:=fun x lo hi H Q=>∃a xs,x=.ref a/\cX K H a xs/\∀p,H p=none->Q (.ref p) (upd H p (.lst (xF xs lo hi)))
theorem C5:SlR X (YA X.K):=by
 intro pins s σ H x v vl vu lo hi sl Q I rx hs pl pu h
 obtain⟨a,xs,rfl,hx,q⟩:=h
 cases rx
 obtain⟨its,r,ht,hz⟩:=I.list hx
 have hlen:=r.length
 refine⟨"list",_,slot_list_getitem.lookup,ht.isList.typeIs,?_⟩
 refine wpAny_getItem_list_slice ht.isList hs pl pu .none (by simp) ?_ (by rw[size_toArray]<;>omega)
 rw[xG,<-hlen]
 refine⟨.ref s.heap.objs.size,_,I.laid (t':=s.toks) (o:=.lst (xF xs lo hi)) (fun b ob q=>Heap.get?_push_of_some _ q) (Nat.le_refl _) ?_,rfl,q _ (I.hok.fresh (Nat.le_refl _))⟩
 exact⟨le_trans (z6 xs lo hi) hz,_,0,(r.drop (HT.vM xs.length 0 lo)).take (HT.vM xs.length xs.length hi-HT.vM xs.length 0 lo),Heap.get?_push_size _ rfl⟩
theorem mm:p6 X (.builtin "len") (fun xs H Q=>∃p ys,xs=[.ref p]/\(cX X.K H p ys\/z0 X.K H p ys)/\Q (.int ys.length) H):=by
 intro pins s σ H xs us Q I r h
 obtain⟨p,ys,rfl,hq,q⟩:=h
 obtain⟨u,rfl,rx⟩:=vals1 r
 cases rx
 have hn:=qm
 rcases hq with hq|hq
 ·obtain⟨its,r',pl,hz⟩:=I.list hq
  have hlen:=r'.length
  exact Calls.call_len_list pl.isList (by simp only [size_toArray]<;>omega) ⟨.int ys.length,H,I.tok _,⟨s.toks+1,by rw[size_toArray,hlen]⟩,q⟩
 ·obtain⟨its,r',pl,hz⟩:=I.tuple hq
  have hlen:=r'.length
  exact len_tuple pl (by simp only [size_toArray]<;>omega) ⟨.int ys.length,H,I.tok _,⟨s.toks+1,by rw[size_toArray,hlen]⟩,q⟩
theorem mw:p6 X (.type "list") (fun xs H Q=>∃p ys,xs=[.ref p]/\(cX X.K H p ys\/z0 X.K H p ys)/\∀l,H l=none->Q (.ref l) (upd H l (.lst ys))):=by
 intro pins s σ H xs us Q I r h
 obtain⟨p,ys,rfl,hq,q⟩:=h
 obtain⟨u,rfl,rx⟩:=vals1 r
 cases rx
 have fin:∀(its:List Value),Vals ys its->ys.length<=sizeLine->∀(h':Heap)(c':Nat),(∀b o',s.heap.get? b=some o'->h'.get? b=some o')->
   h'.get? s.heap.objs.size=some {cls:=.type "list",dict:=none,data:=.seq its.toArray c',slots:=#[]}->EP X pins σ Q (.ref s.heap.objs.size) {s with heap:=h'}:=fun its r' hz h' c' kp e=>
  ⟨.ref s.heap.objs.size,_,I.laid (t':=s.toks) kp (Nat.le_refl _) (show dg X.prog X.w _ h' _ (.lst ys)from⟨hz,its,c',r',e⟩),rfl,q _ (I.hok.fresh (Nat.le_refl _))⟩
 rcases hq with hq|hq
 ·obtain⟨its,r',pl,hz⟩:=I.list hq
  have hlen:=r'.length
  obtain⟨o,ho,hc,n,hd⟩:=pl.isList
  exact call_list_seq p (.inl rfl) ho hc hd (fun h' c' kp e=>fin its r' hz h' c' kp e) (by simp only [size_toArray]<;>omega)
 ·obtain⟨its,r',pl,hz⟩:=I.tuple hq
  have hlen:=r'.length
  obtain⟨o,ho,hc,n,hd⟩:=pl
  exact call_list_seq p (.inr rfl) ho hc hd (fun h' c' kp e=>fin its r' hz h' c' kp e) (by simp only [size_toArray]<;>omega)
theorem xH:p6 X (.type "tuple") (fun xs H Q=>∃p ys,xs=[.ref p]/\((cX X.K H p ys/\∀l,H l=none->Q (.ref l) (upd H l (.tup ys)))\/(z0 X.K H p ys/\Q (.ref p) H))):=by
 intro pins s σ H xs us Q I r h
 obtain⟨p,ys,rfl,h⟩:=h
 obtain⟨u,rfl,rx⟩:=vals1 r
 cases rx
 rcases h with⟨hq,q⟩|⟨hq,q⟩
 ·obtain⟨its,r',pl,hz⟩:=I.list hq
  have hlen:=r'.length
  refine call_tuple_list pl.isList (fun h' kp=>?_) (by simp only [size_toArray]<;>omega)
  have I1:Inv X pins σ H {s with heap:=h'}:=I.kept (t':=s.toks) kp
  have I2:Inv X pins σ (upd H h'.objs.size (.tup ys)) {s with heap:=h'.push {cls:=.type "tuple",data:=.seq its.toArray}}:=
   I1.laid (t':=s.toks) (fun b o e=>Heap.get?_push_of_some _ e) (Nat.le_refl _) (show dg X.prog X.w _ _ _ (.tup ys)from⟨hz,its,r',IsTup.new _ _⟩)
  exact⟨.ref h'.objs.size,_,I2,rfl,q _ (I1.hok.fresh (Nat.le_refl _))⟩
 ·obtain⟨its,r',pl,hz⟩:=I.tuple hq
  exact call_tuple_same pl ⟨.ref p,H,I,rfl,q⟩
def YB(K:PySem.W.Frag)(T:String)(x:V)(H:Hp):Prop:=match x with
 |.str _=>T="str"
 |.int _=>T="int"
 |.ref p=>(T="list"/\∃xs,cX K H p xs)\/(T="tuple"/\∃o,K.lookup p=some o/\o.cls=.type "tuple"/\o.dict=none)\/
   (T="dict"/\((∃kvs,H p=some (.dK kvs))\/∃kvs,H p=some (.dT kvs)))\/(T="set"/\∃S n,H p=some (.set S n))
 |_=>False
theorem Hj{pins:List (Addr×Obj)}{σ:St}{H:Hp}{s:Shared}{T:String}{x:V}{v:Value}(I:Inv X pins σ H s)(r:RelV x v)(ty:YB X.K T x H):
  s.TypeIs v T/\∀a,v=.ref a->∃ob,s.heap.get? a=some ob/\ob.dict=none:=by
 cases x with
 |str z=>
  obtain⟨t,rfl⟩:=r
  cases (show T="str" from ty)
  exact⟨typeIs_str s z t,fun _ e=>nomatch e⟩
 |int i=>
  obtain⟨t,rfl⟩:=r
  cases (show T="int" from ty)
  exact⟨typeIs_int s i t,fun _ e=>nomatch e⟩
 |ref p=>
  cases r
  rcases ty with⟨rfl,xs,hq⟩|⟨rfl,o,hk,hc,hd⟩|⟨rfl,hk⟩|⟨rfl,S,n,hk⟩
  ·obtain⟨its,_,pl,_⟩:=I.list hq
   refine⟨pl.isList.typeIs,fun a e=>?_⟩
   cases e
   obtain⟨o,n,e,c,hd,_⟩:=pl
   exact⟨o,e,hd⟩
  ·refine⟨⟨o,I.sF p o hk,hc⟩,fun a e=>?_⟩
   cases e
   exact⟨o,I.sF _ o hk,hd⟩
  ·have z:∃o,s.heap.get? p=some o/\o.ExactDict:=by
    rcases hk with⟨kvs,hk⟩|⟨kvs,hk⟩
    ·obtain⟨_,_,_,_,o,_,_,e,ex,_⟩:=I.hok p _ hk
     exact⟨o,e,ex⟩
    ·obtain⟨_,_,_,_,o,_,_,e,ex,_⟩:=I.hok p _ hk
     exact⟨o,e,ex⟩
   obtain⟨o,e,ex⟩:=z
   refine⟨⟨o,e,ex.1⟩,fun a e2=>?_⟩
   cases e2
   exact⟨o,e,ex.2.1⟩
  ·obtain⟨o,_,_,_,e,ex,_⟩:=I.hok p _ hk
   refine⟨⟨o,e,ex.1⟩,fun a e2=>?_⟩
   cases e2
   exact⟨o,e,ex.2.1⟩
 |_=>exact False.elim ty
def YC(K:PySem.W.Frag)(T:String)(r:V->List V->Hp->VK->Prop)(to:TE):TE:=fun σ H Q=>to σ H fun x H1=>YB K T x H1/\r x [] H1 Q
def tBM(K:PySem.W.Frag)(T:String)(r:V->List V->Hp->VK->Prop)(to:TE)(t:TA):TE:=fun σ H Q=>to σ H fun x H1=>YB K T x H1/\t σ H1 fun xs H2=>r x xs H2 Q
variable{o e:Expr}{es:List Expr}{to:TE}{t:TA}{name:Str}{apos bA:Pos}{T id:String}{r:V->List V->Hp->VK->Prop}
theorem yW(pa:PlainAttrs T)(slot:Slot T name id)(hty:typeOf (.builtin id)=pure (.type "method_descriptor"))(hm:Xj X id r)(ho:PE X o to)
  (hbase:attributeBase o name X.env (eval o X.env)=eval o X.env:=by rfl)(hline:(apos.endLine==bA.line)=true:=by rfl):PE X (.Call (.Attribute o name apos) [] [] bA) (YC X.K T r to):=by
 intro pins s σ H Q I h
 refine wpAny_Call_method0_late hbase hline (cj (ho pins s σ H _ I h) fun v s1 ⟨x,H1,I1,r1,ty,q1⟩=>?_)
 obtain⟨h1,h2⟩:=Hj I1 r1 ty
 exact⟨T,id,pa,slot,hty,h1,h2,Calls.callWith_builtin rfl (PySem.evalArgs_none (hm pins s1 σ H1 x [] v [] Q I1 r1 .nil q1))⟩
theorem ug(pa:PlainAttrs T)(slot:Slot T name id)(hty:typeOf (.builtin id)=pure (.type "method_descriptor"))(hm:Xj X id r)(ho:PE X o to)(ha:PA X (e::es) t)
  (hbase:attributeBase o name X.env (eval o X.env)=eval o X.env:=by rfl)
  (hfew:((backTo bA (starEach (e::es) X.env)).all (fun x=> !x.1)&&(backToKw bA (keywordEach [] X.env)).all (fun x=>x.1.isSome)
   &&decide ((e::es).length+([]:List Keyword).length+(if([]:List Keyword).isEmpty then 0 else 1)<30))=true:=by rfl)
  (hline:(apos.endLine==bA.line)=true:=by rfl)(hs:starEach (e::es) X.env=(false,eval e X.env)::starEach es X.env:=by rfl)(hplain:(backTo bA (starEach es X.env)).any (·.1)=false:=by rfl):
  PE X (.Call (.Attribute o name apos) (e::es) [] bA) (tBM X.K T r to t):=by
 intro pins s σ H Q I h
 refine wpAny_Call_method_late hbase hfew hline rfl (cj (ho pins s σ H _ I h) fun v s1 ⟨x,H1,I1,r1,ty,q1⟩=>?_)
 obtain⟨h1,h2⟩:=Hj I1 r1 ty
 refine⟨T,id,pa,slot,hty,h1,h2,?_⟩
 have hA:=ha bA pins s1 σ H1 _ I1 q1
 rw[hs]at hA⊢
 refine Calls.callWith_builtin (by show(false||(backTo bA (starEach es X.env)).any (·.1))=false;rw[hplain]<;>rfl) (Calls.evalArgs_plain ?_)
 exact cj hA fun us s2 ⟨vs,H2,I2,r2,q2⟩=>hm pins s2 σ H2 x vs v us Q I2 r1 r2 q2
end
end L2
namespace L2
open PySem PySem.Spec PyProof.Rows
def YD(X:Cx)(id:String)(r:V->List V->Hp->VK->Prop):Prop:=
 ∀(pins:List (Addr×Obj))(s:Shared)(σ:St)(H:Hp)(x:V)(xs:List V)(v:Value)(us:List Value)(Q:VK),Inv X pins σ H s->RelV x v->Vals xs us->r x xs H Q->
  wpAny (model X.prog X.w) X.A (call (.builtin id) (v::us)) (EP X pins σ Q) X.xe s
theorem Vals.one:∀{x:V}{us:List Value},Vals [x] us->∃u,us=[u]/\RelV x u
 |_,_,.cons r .nil=>⟨_,rfl,r⟩
theorem Vals.zero:∀{us:List Value},Vals [] us->us=[]
 |_,.nil=>rfl
theorem Vals.dropLast {xs:List V}{us:List Value}(h:Vals xs us):Vals xs.dropLast us.dropLast:=by
 induction h with
 |nil=>exact .nil
 |cons r t ih=>
  cases t with
  |nil=>exact .nil
  |cons q t'=>exact .cons r ih
theorem Vals.reverse {xs:List V}{us:List Value}(h:Vals xs us):Vals xs.reverse us.reverse:=by
 induction h with
 |nil=>exact .nil
 |cons r t ih=>rw[reverse_cons,reverse_cons];exact Vals.append ih (.cons r .nil)
theorem Vals.rep {xs:List V}{us:List Value}(h:Vals xs us):∀k:Nat,Vals (replicate k xs).flatten (replicate k us).flatten
 |0=>.nil
 |k+1=>by
  rw[replicate_succ,replicate_succ,flatten_cons,flatten_cons]
  exact Vals.append h (Vals.rep h k)
theorem BQ{α:Type}(l:List α):l.eraseIdx (l.length-1)=l.dropLast:=by
 induction l with
 |nil=>rfl
 |cons a r ih=>
  cases r with
  |nil=>rfl
  |cons b r=>
   have e:(a::b::r).length-1=((b::r).length-1)+1:=by
    have h1:(a::b::r).length=r.length+2:=rfl
    have h2:(b::r).length=r.length+1:=rfl
    omega
   rw[e,List.eraseIdx_cons_succ,ih]
   all_goals rfl
theorem foldl_rep(its:List Value):∀(k:Nat)(acc:List Value),
  foldl (fun x1 x2=>x1++x2) acc.toArray (replicate k its.toArray)=(acc++(replicate k its).flatten).toArray
 |0,acc=>by simp
 |k+1,acc=>by
  have e:acc.toArray++its.toArray=(acc++its).toArray:=by simp
  have e2:(acc++its)++(replicate k its).flatten=acc++(replicate (k+1) its).flatten:=by
   rw[replicate_succ,flatten_cons,List.append_assoc]
  rw[<-e2,<-foldl_rep its k (acc++its),<-e,replicate_succ,foldl_cons]
section
variable{X:Cx}{pins:List (Addr×Obj)}{σ:St}{H:Hp}{s:Shared}{l b:Addr}{xs ys zs:List V}
theorem Inv.QC {its its':List Value}{n:Nat}{f:Array Value->Array Value}{t':Nat}(I:Inv X pins σ H s)(hH:H l=some (.lst xs))
  (e:s.heap.get? l=some {cls:=.type "list",data:=.seq its.toArray n})(hf:f its.toArray=its'.toArray)(hv:Vals ys its')(hz:ys.length<=sizeLine):
  Inv X pins σ (upd H l (.lst ys)) {s with heap:=s.heap.update l (Obj.mapSeq f),toks:=t'}:=by
 have q:=PySem.IsL.update e f
 rw[hf]at q
 refine I.write (x:=l) (e:=l) (by rw[hH];exact trivial) (.inl rfl) (fun b' u hb hu=>(Heap.get?_update_other s.heap (Obj.mapSeq f) (Ne.symm hb)).trans hu) ⟨_,q⟩ ?_
 exact⟨hz,its',_,hv,q⟩
theorem Inv.U6 {its:List Value}{t':Nat}(I:Inv X pins σ H s)(hv:Vals ys its)(hz:ys.length<=sizeLine):
  Inv X pins σ (upd H s.heap.objs.size (.lst ys)) {s with heap:=s.heap.push {cls:=.type "list",data:=.seq its.toArray},toks:=t'}:=
 I.laid (fun _ _ q=>Heap.get?_push_of_some _ q) (Nat.le_refl _) ⟨hz,its,0,hv,Heap.get?_push_size _ rfl⟩
theorem Inv.fresh (I:Inv X pins σ H s):H s.heap.objs.size=none:=I.hok.fresh (Nat.le_refl _)
theorem Inv.LJ (I:Inv X pins σ H s)(hH:H l=some (.lst xs)):xs.length<=sizeLine/\∃(its:List Value)(n:Nat),Vals xs its/\xs.length=its.length/\s.heap.get? l=some {cls:=.type "list",data:=.seq its.toArray n}:=by
 obtain⟨z,its,n,r,e⟩:=I.hok l _ hH
 exact⟨z,its,n,r,r.length,e⟩
theorem Hk{n:Nat}(h:n<=sizeLine):Builtin.List.listTooLong n=false:=by
 unfold Builtin.List.listTooLong
 exact decide_eq_false (by omega)
end
section
variable{X:Cx}
def LK:V->List V->Hp->VK->Prop:=fun x vs H Q=>∃l xs y,x=.ref l/\vs=[y]/\H l=some (.lst xs)/\xs.length<sizeLine/\Q .non (upd H l (.lst (xs++[y])))
theorem fy:YD X "list.append" LK:=by
 intro pins s σ H x vs v us Q I rx rv h
 obtain⟨l,xs,y,rfl,rfl,hH,hz,q⟩:=h
 cases rx
 obtain⟨u,rfl,ru⟩:=rv.one
 obtain⟨z,its,n,r,hl,e⟩:=I.LJ hH
 refine call_meets F.slot_list_append ⟨_,e,rfl⟩ F.entry_list_append (F.args_list_append_2 _ _) (PySem.list_append l its.toArray n u (by rw[size_toArray];omega)) ⟨e,?_⟩
 refine⟨.non,_,I.QC (its':=its++[u]) hH e (by simp) (r.append (.cons ru .nil)) ?_,rfl,q⟩
 rw[length_append,length_singleton]
 omega
def YE:V->List V->Hp->VK->Prop:=fun x vs H Q=>∃l xs y,x=.ref l/\vs=[]/\H l=some (.lst xs)/\xs[xs.length-1]?=some y/\Q y (upd H l (.lst xs.dropLast))
theorem Hl:YD X "list.pop" YE:=by
 intro pins s σ H x vs v us Q I rx rv h
 obtain⟨l,xs,y,rfl,rfl,hH,hy,q⟩:=h
 cases rx
 have YF:=rv.zero
 subst YF
 obtain⟨z,its,n,r,hl,e⟩:=I.LJ hH
 obtain⟨u,hu,ru⟩:=r.get hy
 have YG:its.toArray[its.toArray.size-1]?=some u:=by
  show its.toArray[its.length-1]?=some u
  rw[<-Array.getElem?_toList,<-hl]
  exact hu
 refine call_meets F.slot_list_pop ⟨_,e,rfl⟩ F.entry_list_pop (F.args_list_pop_1 _) (MeetsSeq.list_pop_last l its.toArray n u YG (by rw[size_toArray];omega)) ⟨e,?_⟩
 refine⟨y,_,I.QC (its':=its.dropLast) hH e ?_ r.dropLast ?_,ru,q⟩
 ·show its.toArray.eraseIdxIfInBounds (its.toArray.size-1)=its.dropLast.toArray
  rw[size_toArray,List.eraseIdxIfInBounds_toArray,BQ]
 ·rw[List.length_dropLast]
  omega
def Hm:V->List V->Hp->VK->Prop:=fun x vs H Q=>∃l xs,x=.ref l/\vs=[]/\H l=some (.lst xs)/\Q .non (upd H l (.lst xs.reverse))
theorem BR:YD X "list.reverse" Hm:=by
 intro pins s σ H x vs v us Q I rx rv h
 obtain⟨l,xs,rfl,rfl,hH,q⟩:=h
 cases rx
 have YF:=rv.zero
 subst YF
 obtain⟨z,its,n,r,hl,e⟩:=I.LJ hH
 refine call_meets F.slot_list_reverse ⟨_,e,rfl⟩ F.entry_list_reverse (F.args_list_reverse_1 _) (AutoSeq1.list_reverse_list_0 l its.toArray n (by rw[size_toArray];omega)) ⟨e,?_⟩
 refine⟨.non,_,I.QC (its':=its.reverse) hH e (by simp) r.reverse ?_,rfl,q⟩
 rw[length_reverse]
 omega
def YH:R2:=fun x y H Q=>∃l k xs,x=.ref l/\y=.int k/\H l=some (.lst xs)/\ -(2^63)<=k/\k<2^63/\xs.length*k.toNat<=sizeLine/\
 ∀p,H p=none->Q (.ref p) (upd H p (.lst (replicate k.toNat xs).flatten))
theorem len_rep{α:Type}(xs:List α)(k:Nat):(replicate k xs).flatten.length=k*xs.length:=by
 induction k with
 |zero=>simp
 |succ k ih=>rw[replicate_succ,flatten_cons,length_append,ih,Nat.succ_mul,Nat.add_comm]
theorem QD:qJ X (binaryOp .Mult) YH:=by
 intro pins s σ H x y v u Q I rx ry h
 obtain⟨l,k,xs,rfl,rfl,hH,h1,h2,hz,q⟩:=h
 cases rx
 obtain⟨t,rfl⟩:=ry
 obtain⟨z,its,n,r,hl,e⟩:=I.LJ hH
 have hlen:its.toArray.size*k.toNat<=sizeLine:=by rw[size_toArray,<-hl];exact hz
 have YJ:¬its.toArray.size*k.toNat>(2^63-1)/8:=by
  have:(sizeLine:Nat)<=(2^63-1)/8:=by decide
  omega
 have hfit:¬(!Builtin.List.listFitsIndex k)=true:=by
  rw[fitsIndex_both h1 h2]
  exact Bool.false_ne_true
 have U7:¬Builtin.List.listTooLong (its.toArray.size*k.toNat)=true:=by
  rw[Hk hlen]
  exact Bool.false_ne_true
 have hnew:foldl (fun x1 x2=>x1++x2) #[] (replicate (if its.toArray.isEmpty=true then 0 else k.toNat) its.toArray)=(replicate k.toNat its).flatten.toArray:=by
  have f0:∀m:Nat,foldl (fun x1 x2=>x1++x2) #[] (replicate m its.toArray)=(replicate m its).flatten.toArray:=fun m=>by
   have:=foldl_rep its m []
   rw[nil_append]at this
   exact this
  rw[f0]
  cases its with
  |nil=>simp
  |cons a r'=>rw[if_neg (by simp)]
 refine wpAny_binaryOp_repeat_ref (T:="list") (U:="int") (by decide) ⟨_,e,rfl⟩ (fun s'=>typeIs_int s' k t) noFill_list_mul F.fills_int_mul F.slot_int_rmul repeat_list F.slot_int_index.lookup
  (call_meets F.slot_int_rmul (typeIs_int s k t) F.entry_int_rmul (F.args_int_rmul_2 _ _) (int___rmul___int_list k t l its.toArray n)
   ⟨e,rfl,⟨_,e,rfl⟩,call_meets F.slot_list_mul ⟨_,e,rfl⟩ F.entry_list_mul (F.args_list_mul_2 _ _) (AutoListH.list___mul___list_int_3 l its.toArray n k t hfit YJ U7) ⟨e,?_⟩⟩)
 rw[hnew]
 exact⟨.ref _,_,I.U6 (t':=s.toks) (r.rep k.toNat) (by rw[len_rep,Nat.mul_comm];exact hz),rfl,q _ I.fresh⟩
end
section
variable{prog:Program}{w:World}{A:Around}{E:Value->Shared->Prop}{s:Shared}
set_option maxRecDepth 100000 in
end
end L2
namespace Att
open PySem PySem.W PySem.Calls PyProof.Rows
theorem uC{P:Params}{h:Heap}:∀(ns:List Int)(vs:List Value),WellAll P h vs (ns.map WData.int)->IntsAre vs ns:=by
 intro ns
 induction ns with
 |nil=>
  intro vs w
  rw[map_nil]at w
  cases w
  exact .nil
 |cons n ns ih=>
  intro vs w
  rw[map_cons]at w
  cases w with
  |cons a b=>
   cases a
   exact .cons _ _ (ih _ b)
theorem Fq{l:OpenLaw}{n:Nat}(hn:l.most=some n){P:Params}{h:Heap}{args:List WData}{vals:List Value}
  (hpre:l.row.toRowW.claim.pre args=true)(YK:WellAll P h vals args):
  ∃a vs ns,vals=[Value.ref a]/\args=[WData.list (ns.map WData.int)]/\h.get? a=some {cls:=.type "list",data:=.seq vs.toArray}/\IntsAre vs ns/\ns.length<=n:=by
 have hsh:WShape.hasAll [] args [.list .int]=true:=(pre_splitW hpre).1
 have hc:l.pre.holds [] {args:=args}=true:=(pre_splitW hpre).2
 obtain⟨d,r,rfl,h1,h2⟩:=hasAllW_cons hsh
 obtain rfl:=hasAllW_nil h2
 obtain⟨xs,rfl,h3⟩:=hasW_list h1
 obtain⟨ns,rfl⟩:=items_int h3
 have hlen:ns.length<=n:=by
  unfold OpenLaw.pre at hc
  have h4:(WTm.not (.lt (.lit (.int (n:Int))) (.len (.arg 0)))).holds [] {args:=[.list (ns.map .int)]}=true:=by
   have h4:=(holds_andW hc).1
   rw[hn]at h4
   exact h4
  have h5:=condW_of h4 (w_not (w_lt w_lit (w_len_list (w_arg rfl))))
  rw[length_map]at h5
  refine Nat.le_of_not_lt fun q=>?_
  have q':(n:Int)<((ns.length:Nat):Int):=by omega
  first
   |(rw[decide_eq_true q']at h5;exact absurd h5 (by decide))
   |(simp at h5;omega)
 cases YK with
 |cons w1 w2=>
  cases w2
  cases w1 with
  |list ho hall=>exact⟨_,_,ns,rfl,rfl,ho,uC ns _ hall,hlen⟩
theorem Ft(l:OpenLaw)(args:List WData):l.row.toRowW.claim.post args (.bool true) args=true:=
 postW_of (r:=l.row.toRowW) (X:=(true==true))
  (show WShape.has [] (.bool true) .bool=true by first|rfl|decide|simp[WShape.has,WShape.arms,WShape.armsAll])
  (show(WTm.eq .res (.lit (.bool true))).value [] {args:=args,res:=some (.bool true),after:=args}=some (.bool (true==true))from w_eq_bool (w_res rfl) w_lit) rfl
theorem z7{l:OpenLaw}{n:Nat}{q:Program}{loose:List Str}{XP:(Str->Option Value)->Heap->Prop}{YP:World->Heap->Prop}{d:DefRec}
  (hn:l.most=some n)(U8:d.params.defaults=[])
  (call:∀(w:World)(s₀ s₁:Shared)(mg mb:Str->Option Value)(fa:Addr)(o:Obj)(pm cd doc:Value)(a:Addr)(vs:List Value)(ns:List Int),
   Ground q loose [] XP w s₀ mg mb s₁.heap->YP w s₁.heap->
   s₁.heap.get? fa=some o->o.data=.func (docDef d.name d.params d.body d.scope pm cd doc)->s₁.heap.CodeRec cd d.name->mg d.name=some (.ref fa)->
   s₁.heap.get? a=some {cls:=.type "list",data:=.seq vs.toArray}->IntsAre vs ns->ns.length<=n->s₁.gens=#[]->
   codeAny (model l.prog w) callerA (.call (.ref fa) ⟨[.ref a],[]⟩) (fun r s'=>r=.ok (.ret (.bool true))/\OldK s₁.heap s'.heap/\s'.os=s₁.os/\AllBare s'.gens) s₁):
  WalkO q loose XP YP l.row.toRowW d [] (fun f vs=>PySem.call f vs):=by
 intro w s₀ s₁ mg mb G Y fa o pm cd doc dV kV ho hd hcd hD hmg hg args vals as hpre hlay hrd YK hlo
 obtain rfl:dV=.none:=Dflts.none hD U8
 obtain rfl:kV=.none:=Dflts.noKw hD
 obtain⟨a,vs,ns,rfl,rfl,hobj,hints,hlen⟩:=Fq hn hpre YK
 refine enter_call (codeAny_mono (call w s₀ s₁ mg mb fa o pm cd doc a vs ns G Y ho (fd_plain hd) hcd hmg hobj hints hlen hg) fun r s' hq=>?_)
 obtain⟨rfl,h2,h3,h4⟩:=hq
 exact⟨.inl ⟨.bool true,.bool true,[],rfl,fun _=>rfl,.bool true,Ft l _,fun _=>⟨Pairwise.nil,fun _ hm=>(nomatch hm)⟩⟩,h2,h3,h4⟩
section
variable{prog:Program}{w:World}{A:Around}{E:Value->Shared->Prop}{s:Shared}{K:Frag}
def ledger(h:Heap)(L d:Addr):List (Addr×Obj):=(range h.objs.size).filterMap fun a=>if a=L\/a=d then none else(h.get? a).map fun o=>(a,o)
end
end Att
namespace L2
open PySem PySem.Spec PyProof.Rows
theorem sM:∀{vs:List Value}{ns:List Int},IntsAre vs ns->Vals (ns.map V.int) vs
 |_,_,.nil=>.nil
 |_,_,.cons n t h=>.cons ⟨t,rfl⟩ (sM h)
def QE(H:Hp):Prop:=∀b,H b=none\/∃o xs,H b=some (.xB o (.lst xs))
theorem Hn{P:Program}{w:World}{K:PySem.W.Frag}{mg mb:Str->Option Value}{CX:GD}{k:Nat}{fa a:Addr}{fd:FuncData}{x:Str}{sp:Sp}{s₁:Shared}{vs:List Value}{ns:List Int}
  (KX:K.In s₁.heap)(hns:s₁.heap.Ns mainGlobals mg)(hb:s₁.heap.Ns builtinsNs mb)(U9:∀x:Str,x≠"__name__"->mb x=bootBuiltins x)(hlim:s₁.heap.NoLimit)(hg:s₁.gens=#[])
  (ha:s₁.heap.get? a=some {cls:=.type "list",data:=.seq vs.toArray})(hi:IntsAre vs ns)(hl:ns.length<=sizeLine)(hr:aZ k callerA)
  (F:∀base:Heap,K.In base->base.Ns mainGlobals mg->cu P w K mg base CX k fa fd [x] sp)(hbind:∀(s:Shared)(u:Value),BindsTo s fd ⟨[u],[]⟩ [(x,u)])
  (xE:∀H:Hp,QE H->cX K H a (ns.map V.int)->sp [.ref a] H (fun v _=>v=.bl true) fun _ _ _=>False)
  (YL:∀H e s',CX [] H s₁ (fun _ _ _=>False) e s'->False):
  codeAny (model P w) callerA (.call (.ref fa) ⟨[.ref a],[]⟩) (fun r s'=>r=.ok (.ret (.bool true))/\OldK s₁.heap s'.heap/\s'.os=s₁.os/\AllBare s'.gens) s₁:=by
 have rv:=sM hi
 have YM:=hi.length
 have core:∀H:Hp,QE H->cX K H a (ns.map V.int)->pU P w H s₁.heap->(∀b,H b≠none->b=a)->(H a≠none->K.lookup a=none)->
   codeAny (model P w) callerA (.call (.ref fa) ⟨[.ref a],[]⟩) (fun r s'=>r=.ok (.ret (.bool true))/\OldK s₁.heap s'.heap/\s'.os=s₁.os/\AllBare s'.gens) s₁:=by
  intro H hO hS hok hA hK
  have C6:∀{b:Addr}{o:Obj},s₁.heap.get? b=some o->H b=none->(yN s₁.heap H).get? b=some o:=fun e n=>GW e n
  have UZ:∀{b:Addr}{o:Obj}{es:Array DictEntry}{ep:Nat},s₁.heap.get? b=some o->o.data=.dict es ep->H b=none:=fun{b o es ep} e d=>by
   cases q:H b with
   |none=>rfl
   |some u=>
    have e':b=a:=hA b (by rw[q];simp)
    subst e'
    rw[ha]at e;cases e
    have d':Data.seq vs.toArray _=Data.dict es ep:=d
    cases d'
  have Xk:∀{b:Addr}{m:Str->Option Value},s₁.heap.Ns b m->(yN s₁.heap H).Ns b m:=fun{b m}⟨o,es,ep,e,d,r⟩=>⟨o,es,ep,C6 e (UZ e d),d,r⟩
  have hKb:K.In (yN s₁.heap H):=fun b o e=>C6 (KX b o e) (by
   cases q:H b with
   |none=>rfl
   |some u=>
    have e':b=a:=hA b (by rw[q];simp)
    subst e'
    rw[hK (by rw[q];simp)]at e;cases e)
  have hM:Mod K mg (yN s₁.heap H):=⟨hKb,Xk hns,⟨mb,Xk hb,U9⟩,let⟨mc,h1,h2⟩:=hlim;⟨mc,Xk h1,h2⟩⟩
  have e0:BL P w K mg (yN s₁.heap H) callerA [] s₁ H:=⟨rfl,hM,fun b o e=>Lj e,le_of_eq (E8 _ _),trivial,fun b hb=>absurd (show b∈([]:List Addr)from hb) (by simp),hok,.of_eq hg⟩
  refine codeAny_mono ((F _ hKb (Xk hns)).run callerA [] s₁ H ⟨[.ref a],[]⟩ [.ref a] [.ref a] _ _ hr e0 (hbind s₁ (.ref a)) (.cons rfl .nil) (xE H hO hS)) fun r s' h=>?_
  cases r with
  |error e=>exact(YL H e s' h).elim
  |ok fl=>
   cases fl with
   |next=>exact False.elim h
   |brk=>exact False.elim h
   |cont=>exact False.elim h
   |ret u=>
    obtain⟨v,H',os,bare,un,YN,r',q⟩:=h
    have q':v=.bl true:=q
    subst q'
    obtain rfl:u=Value.bool true:=r'
    refine⟨rfl,OldK.of_keep fun b o e=>?_,os,bare⟩
    cases q:H b with
    |none=>exact un.keep b o e q (by intro z;exact absurd (show b∈([]:List Addr)from z) (by simp)) (by simp)
    |some u=>
     rcases hO b with z|⟨ob,xs,z⟩
     ·rw[q]at z;cases z
     ·have z2:=un.yM b ob _ z
      obtain⟨e1,_⟩:=hok b _ z
      obtain⟨e2,_⟩:=YN b _ z2
      rw[e]at e1;cases e1
      exact e2
 cases hk:K.lookup a with
 |some o=>
  have e:=KX a o hk
  rw[ha]at e
  cases e
  refine core (fun _=>none) (fun _=>.inl rfl) (.inr ⟨_,vs.toArray,_,hk,rfl,rfl,rfl,by rw[size_toArray,YM];exact hl,by simpa using rv⟩) (fun b u z=>by have z':(none:Option HO)=some u:=z;cases z') (fun b z=>absurd rfl z) fun z=>absurd rfl z
 |none=>
  refine core (fun b=>if b=a then some (.xB {cls:=.type "list",data:=.seq vs.toArray} (.lst (ns.map V.int)))else none) (fun b=>?_) (.inl (.inr ⟨{cls:=.type "list",data:=.seq vs.toArray},if_pos rfl⟩)) (fun b u z=>?_) (fun b z=>?_) fun _=>hk
  ·by_cases hb:b=a
   ·exact .inr ⟨_,_,if_pos hb⟩
   ·exact .inl (if_neg hb)
  ·by_cases hb:b=a
   ·have z':=(if_pos hb).symm.trans z
    cases z'
    subst hb
    exact⟨ha,by rw[length_map];exact hl,vs,_,rv,ha⟩
   ·have z':=(if_neg hb).symm.trans z
    cases z'
  ·by_cases hb:b=a
   ·exact hb
   ·exact absurd (if_neg hb) z
end L2
namespace L2
open PySem PySem.Spec PyProof.Rows
abbrev KOf{K:PySem.W.Frag}{h:Heap}(_:K.In h):PySem.W.Frag:=K
theorem LL{l:PySem.W.OpenLaw}{n k:Nat}{q:Program}{loose:List Str}{XP:(Str->Option Value)->Heap->Prop}{YP:World->Heap->Prop}{d:DefRec}{K:Params->PySem.W.Frag}{CX:World->GD}{sp:World->Sp}{x:Str}
  (hn:l.most=some n)(hn2:n<=sizeLine)(U8:d.params.defaults=[])(hr:aZ k callerA)
  (hY:∀(w:World)(h:Heap),YP w h->(K w.params).In h)
  (F:∀(w:World)(mg:Str->Option Value)(fa:Addr)(h:Heap),(K w.params).In h->h.Ns mainGlobals mg->mg d.name=some (.ref fa)->
   ∃fd:FuncData,(∀(s:Shared)(u:Value),BindsTo s fd ⟨[u],[]⟩ [(x,u)])/\
    ∀base:Heap,(K w.params).In base->base.Ns mainGlobals mg->cu l.prog w (K w.params) mg base (CX w) k fa fd [x] (sp w))
  (xE:∀(w:World)(H:Hp)(a:Addr)(ns:List Int),ns.length<=n->QE H->cX (K w.params) H a (ns.map V.int)->sp w [.ref a] H (fun v _=>v=.bl true) fun _ _ _=>False)
  (YL:∀(w:World)(H:Hp)(s:Shared)(e:Value)(s':Shared),CX w [] H s (fun _ _ _=>False) e s'->False):
  PySem.W.WalkO q loose XP YP l.row.toRowW d [] (fun f vs=>PySem.call f vs):=by
 refine Att.z7 hn U8 fun w s₀ s₁ mg mb fa o pm cd doc a vs ns G Y ho hd hcd hmg hobj hints hlen hg=>?_
 have KX:=hY w _ Y
 obtain⟨fd,hb,hF⟩:=F w mg fa _ KX G.T.g hmg
 exact Hn KX G.T.g G.T.b G.T.builtins G.T.nolimit hg hobj hints (le_trans hlen hn2) hr hF hb (fun H hO hS=>xE w H a ns hlen hO hS) fun H e s'=>YL w H s₁ e s'
end L2
namespace L2
open PySem PySem.Spec PyProof.Rows
def inClass(s:Stmt)(j:Nat):Stmt:=match s with
 |.ClassDef _ _ _ body _ _ _ _ _ _ _=>body.getD j (.Pass ⟨0,0,0,0⟩)
 |_=>.Pass ⟨0,0,0,0⟩
def ed(s:Stmt):Arguments:=match s with
 |.FunctionDef _ a _ _ _ _ _ _ _ _=>a
 |_=>{posonlyargs:=[],args:=[],vararg:=none,kwonlyargs:=[],kw_defaults:=[],kwarg:=none,defaults:=[]}
def bH(s:Stmt):List Stmt:=match s with
 |.FunctionDef _ _ b _ _ _ _ _ _ _=>b
 |_=>[]
def ae(s:Stmt):Scope:=match s with
 |.FunctionDef _ _ _ _ _ _ sc _ _ _=>sc
 |_=>{kind:=.function,names:=[],isGenerator:=false,isCoroutine:=false}
abbrev kC:GD:=fun _ _ _ _ _ _=>False
abbrev E0:XK:=fun _ _ _=>False
theorem nj{X:Cx}:Passes kC X E0:=fun _ _ _ _ _ _ _ h=>h.elim
structure z8(K:PySem.W.Frag)(x qual:Str)(st:Stmt)(f:Addr)(fd:FuncData):Prop where
 ex:∃(oc:Value)(od:Option Addr)(kV doc pm:Value)(an:Option Addr)(cdv ct:Value)(GF:Array (Option Value)),
  fd=PySem.W.fnOf x qual (ed st) (bH st) (ae st) .none kV doc pm an cdv ct/\K.lookup f=some ⟨oc,od,.func fd,GF⟩/\codeIn K cdv qual=true
 kp:keepIn K (.ref f)=true
section
variable{P:Program}{w:World}{K:PySem.W.Frag}{mg:Str->Option Value}{base:Heap}
theorem z8.ok {x qual:Str}{st:Stmt}{f:Addr}{fd:FuncData}{N ps:List Str}{k:Nat}{sp:Sp}(F:z8 K x qual st f fd)(S:aD N ps (ae st))(len:∀vs H Q E,sp vs H Q E->vs.length=ps.length)
  (hbody:∀(cdv:Value)(A:Around)(outer:List Env)(s:Shared)(H:Hp)(vs:List V)(Q:VK)(E:XK),aZ k (A.deeper (envOfC qual (ae st) s.heap.objs.size f cdv))->sp vs H Q E->
   ∃t,ql (qo kC P w K mg base N qual (ae st) f cdv A outer s H E).GC (bH st) t/\t {nx:=fun _ H'=>Q .non H',rt:=Q} (start N vs) H):cu P w K mg base kC (k+1) f fd ps sp:=by
 obtain⟨oc,od,kV,doc,pm,an,cdv,ct,GF,rfl,lk,hcd⟩:=F.ex
 refine U0 lk hcd S len fun A outer s H vs Q E hr xE=>?_
 obtain⟨t,h,q⟩:=hbody cdv A outer s H vs Q E hr xE
 exact⟨t,h.GC,q⟩
theorem z8.binds {x qual:Str}{st:Stmt}{f:Addr}{fd:FuncData}{ps:List Str}(F:z8 K x qual st f fd)
  (h:∀(kV doc pm:Value)(an:Option Addr)(cdv ct:Value)(us:List Value),us.length=ps.length->bindArgs (PySem.W.fnOf x qual (ed st) (bH st) (ae st) .none kV doc pm an cdv ct) ⟨us,[]⟩=pure (ps.zip us)):Binds K fd ps []:=by
 obtain⟨oc,od,kV,doc,pm,an,cdv,ct,GF,rfl,lk,hcd⟩:=F.ex
 exact .all (h kV doc pm an cdv ct)
theorem BU{x qual:Str}{st:Stmt}{f:Addr}{oc:Value}{od an:Option Addr}{GF:Array (Option Value)}{kV doc pm cdv ct:Value}(l:K.lookup f=some ⟨oc,od,.func (PySem.W.fnOf x qual (ed st) (bH st) (ae st) .none kV doc pm an cdv ct),GF⟩)
  (c:codeIn K cdv qual=true)(k:keepIn K (.ref f)=true):z8 K x qual st f (PySem.W.fnOf x qual (ed st) (bH st) (ae st) .none kV doc pm an cdv ct):=⟨⟨oc,od,kV,doc,pm,an,cdv,ct,GF,rfl,l,c⟩,k⟩
end
theorem qM{A:Around}{k:Nat}(hr:aZ k A):A.units+1<cLine:=Nat.lt_of_le_of_lt (Nat.add_le_add_left (by decide:1<=64) _) hr.units
section
variable{X:Cx}
theorem pv(i:Nat){x:Str}{pos:Pos}(hN:X.N[i]?=some x:=by rfl)(hv:x8 X.env.scope x:=by first|exact Or.inl rfl|exact Or.inr (Or.inl rfl)|exact Or.inr (Or.inr rfl))(hd:(x==("__debug__":Str))=false:=by decide)
  (hcd:(x==("__classdict__":Str))=false:=by decide):PE X (.Name x pos) (Lo i):=ji hN hv hd hcd
end
theorem sN{A B:Prop}(h:B):if false=true then A else B:=by
 rw[if_neg Bool.false_ne_true]
 exact h
theorem uD{A B:Prop}(h:A):if true=true then A else B:=by
 rw[if_pos rfl]
 exact h
def aM(H H':Hp):Prop:=∀b o,H b=some o->H' b=some o
theorem aM.refl (H:Hp):aM H H:=fun _ _ h=>h
theorem aM.trans {H H1 H2:Hp}(a:aM H H1)(b:aM H1 H2):aM H H2:=fun c o h=>b c o (a c o h)
theorem aM.free {H H':Hp}(e:aM H H'){l:Addr}(h:H' l=Option.none):H l=Option.none:=by
 cases q:H l with
 |none=>rfl
 |some o=>
  rw[e l o q]at h
  cases h
theorem aM.seq {K:PySem.W.Frag}{H H':Hp}{a:Addr}{xs:List V}(e:aM H H')(h:cX K H a xs):cX K H' a xs:=by
 rcases h with(h|⟨o,h⟩)|h
 ·exact .inl (.inl (e _ _ h))
 ·exact .inl (.inr ⟨o,e _ _ h⟩)
 ·exact .inr h
end L2
set_option maxHeartbeats 4000000
namespace L2
open PySem PySem.Spec PyProof.Rows
section
variable{κ:Type}[DecidableEq κ]
def du(kvs:List (κ×V))(k:κ):Option V:=(kvs.find? fun kv=>decide (kv.1=k)).map (·.2)
def putK(kvs:List (κ×V))(k:κ)(v:V):List (κ×V):=
 if(kvs.any fun kv=>decide (kv.1=k))=true then kvs.map (fun kv=>if kv.1=k then(kv.1,v)else kv)else kvs++[(k,v)]
def abH(kvs:List (κ×V))(k:κ):List (κ×V):=kvs.filter fun kv=>decide (kv.1≠k)
theorem eR{p:κ×V}{r:List (κ×V)}{k:κ}(e:p.1=k):du (p::r) k=some p.2:=by simp[du,find?_cons,e]
theorem eT{p:κ×V}{r:List (κ×V)}{k:κ}(e:¬p.1=k):du (p::r) k=du r k:=by simp[du,find?_cons,e]
theorem qN(k:κ):∀kvs:List (κ×V),(kvs.any fun kv=>decide (kv.1=k))=(du kvs k).isSome
 |[]=>rfl
 |p::r=>by
  rw[any_cons]
  by_cases e:p.1=k
  ·simp only [eR e,decide_eq_true e,Bool.true_or,Option.isSome_some]
  ·rw[eT e,decide_eq_false e,Bool.false_or];exact qN k r
theorem z9(k j:κ)(y:V):∀kvs:List (κ×V),du (kvs.map fun kv=>if kv.1=k then(kv.1,y)else kv) j=(du kvs j).map fun x=>if j=k then y else x
 |[]=>rfl
 |p::r=>by
  have ih:=z9 k j y r
  rw[map_cons]
  by_cases h:p.1=k
  ·rw[if_pos h]
   by_cases e:p.1=j
   ·rw[eR (p:=(p.1,y)) e,eR e,map_some,if_pos (e.symm.trans h)]
   ·rw[eT (p:=(p.1,y)) e,eT e,ih]
  ·rw[if_neg h]
   by_cases e:p.1=j
   ·rw[eR (p:=p) e,eR e,map_some,if_neg (fun z=>h (e.trans z))]
   ·rw[eT (p:=p) e,eT e,ih]
theorem yd(k j:κ)(y:V):∀kvs:List (κ×V),du kvs k=none->du (kvs++[(k,y)]) j=if j=k then some y else du kvs j
 |[],_=>by
  by_cases e:k=j
  ·rw[if_pos e.symm];exact eR (p:=(k,y)) e
  ·rw[if_neg (fun z=>e z.symm)];exact eT (p:=(k,y)) e
 |p::r,hn=>by
  rw[cons_append]
  have hk:¬p.1=k:=fun z=>by rw[eR z]at hn;cases hn
  rw[eT hk]at hn
  have ih:=yd k j y r hn
  by_cases e:p.1=j
  ·rw[eR e,eR e,if_neg (fun z=>hk (e.trans z))]
  ·rw[eT e,eT e,ih]
theorem jO(kvs:List (κ×V))(k j:κ)(y:V):du (putK kvs k y) j=if j=k then some y else du kvs j:=by
 unfold putK
 by_cases a:(kvs.any fun kv=>decide (kv.1=k))=true
 ·rw[if_pos a,z9]
  rw[qN]at a
  by_cases e:j=k
  ·obtain⟨x,hx⟩:=Option.isSome_iff_exists.mp a
   rw[if_pos e,e,hx,map_some,if_pos rfl]
  ·rw[if_neg e]
   cases du kvs j with
   |none=>rfl
   |some x=>rw[map_some,if_neg e]
 ·rw[if_neg a]
  refine yd k j y kvs ?_
  rw[qN]at a
  cases q:du kvs k with
  |none=>rfl
  |some x=>rw[q]at a;exact(a rfl).elim
theorem gk(kvs:List (κ×V))(k:κ)(v:V):(putK kvs k v).length<=kvs.length+1:=by
 unfold putK
 split
 ·rw[length_map];omega
 ·rw[length_append,length_cons,length_nil];omega
theorem nG.sO {o:Option V}{u:Option Value}(r:nG o u):o.isSome=u.isSome:=by
 cases o with
 |none=>cases u with
  |none=>rfl
  |some _=>exact(show False from r).elim
 |some _=>cases u with
  |none=>exact(show False from r).elim
  |some _=>rfl
theorem nG.getD {o:Option V}{u:Option Value}{d:V}{d':Value}(r:nG o u)(rd:RelV d d'):RelV (o.getD d) (u.getD d'):=by
 cases o with
 |none=>cases u with
  |none=>exact rd
  |some _=>exact(show False from r).elim
 |some _=>cases u with
  |none=>exact(show False from r).elim
  |some _=>exact r
theorem KV.val {kvs:List (κ×V)}{vs:List (κ×Value)}(r:KV kvs vs)(k:κ):nG (du kvs k) (valueAt vs k):=by
 unfold KV at r
 induction r with
 |nil=>exact True.intro
 | @cons p q ps qs h t ih=>
  obtain⟨h1,h2⟩:=h
  by_cases e:p.1=k
  ·have e':q.1=k:=h1.symm.trans e
   have b:valueAt (q::qs) k=some q.2:=by simp[valueAt,find?_cons,e']
   rw[eR e,b];exact h2
  ·have e':¬q.1=k:=fun z=>e (h1.trans z)
   have b:valueAt (q::qs) k=valueAt qs k:=by simp[valueAt,find?_cons,e']
   rw[eT e,b];exact ih
theorem KV.any {kvs:List (κ×V)}{vs:List (κ×Value)}(r:KV kvs vs)(k:κ):(kvs.any fun kv=>decide (kv.1=k))=vs.any fun kv=>decide (kv.1=k):=by
 unfold KV at r
 induction r with
 |nil=>rfl
 |cons h t ih=>rw[any_cons,any_cons,ih,h.1]
theorem KV.QF {kvs:List (κ×V)}{vs:List (κ×Value)}(r:KV kvs vs)(k:κ){y:V}{u:Value}(ry:RelV y u):
  KV (kvs.map fun kv=>if kv.1=k then(kv.1,y)else kv) (vs.map fun kv=>if kv.1=k then(kv.1,u)else kv):=by
 unfold KV at r⊢
 induction r with
 |nil=>exact .nil
 | @cons p q ps qs h t ih=>
  rw[map_cons,map_cons]
  refine .cons ?_ ih
  obtain⟨h1,h2⟩:=h
  by_cases e:p.1=k
  ·rw[if_pos e,if_pos (h1.symm.trans e)];exact⟨h1,ry⟩
  ·rw[if_neg e,if_neg (fun z=>e (h1.trans z))];exact⟨h1,h2⟩
theorem KV.put {kvs:List (κ×V)}{vs:List (κ×Value)}(r:KV kvs vs)(k:κ){y:V}{u:Value}(ry:RelV y u):KV (putK kvs k y) (stored vs k u):=by
 unfold putK stored
 rw[r.any k]
 by_cases e:(vs.any fun kv=>decide (kv.1=k))=true
 ·rw[if_pos e,if_pos e];exact r.QF k ry
 ·rw[if_neg e,if_neg e];exact Paired.snoc r ⟨rfl,ry⟩
theorem KV.length {kvs:List (κ×V)}{vs:List (κ×Value)}(r:KV kvs vs):kvs.length=vs.length:=Paired.length r
end
theorem Aa{P:Program}{w:World}{k:Key}{u:Value}(r:RelV (kV k) u):(di P w).is k u=true:=by
 cases k with
 |inl i=>obtain⟨t,e⟩:=(show∃t,u=Value.int i t from r);subst e;exact zW P w i t
 |inr x=>obtain⟨t,e⟩:=(show∃t,u=Value.str x t from r);subst e;exact zX P w x t
theorem ye{P:Program}{w:World}:∀{ks:List Key}{us:List Value},Vals (ks.map kV) us->ItemsAre (di P w) ks us
 |[],_,r=>by rw[map_nil]at r;cases r;exact .nil
 |k::ks,_,r=>by
  rw[map_cons]at r
  cases r with
  |cons h t=>exact .cons (Aa h) (ye t)
abbrev KT(H:Hp):List (List Key×V)->List (List Key×Addr×Value)->Prop:=Paired fun p q=>p.1=q.1/\H q.2.1=some (.tup (p.1.map kV))/\RelV p.2 q.2.2
theorem KT.val {H:Hp}{kvs:List (List Key×V)}{xs:List (List Key×Addr×Value)}(r:KT H kvs xs)(k:List Key):nG (du kvs k) ((atKey xs k).map (·.2)):=by
 induction r with
 |nil=>exact True.intro
 | @cons p q ps qs h t ih=>
  obtain⟨h1,_,h2⟩:=h
  by_cases e:p.1=k
  ·have e':q.1=k:=h1.symm.trans e
   have b:atKey (q::qs) k=some q.2:=by simp[atKey,find?_cons,e']
   rw[eR e,b];exact h2
  ·have e':¬q.1=k:=fun z=>e (h1.trans z)
   have b:atKey (q::qs) k=atKey qs k:=by simp[atKey,find?_cons,e']
   rw[eT e,b];exact ih
theorem KT.QF {H:Hp}{kvs:List (List Key×V)}{xs:List (List Key×Addr×Value)}(r:KT H kvs xs)(k:List Key){y:V}{u:Value}(ry:RelV y u):
  KT H (kvs.map fun kv=>if kv.1=k then(kv.1,y)else kv) (xs.map (putAt k u)):=by
 induction r with
 |nil=>exact .nil
 | @cons p q ps qs h t ih=>
  rw[map_cons,map_cons]
  refine .cons ?_ ih
  obtain⟨h1,h2,h3⟩:=h
  unfold putAt
  by_cases e:p.1=k
  ·rw[if_pos e,if_pos (h1.symm.trans e)];exact⟨h1,h2,ry⟩
  ·rw[if_neg e,if_neg (fun z=>e (h1.trans z))];exact⟨h1,h2,h3⟩
theorem KT.put {H:Hp}{kvs:List (List Key×V)}{xs:List (List Key×Addr×Value)}(r:KT H kvs xs)(k:List Key){b:Addr}{y:V}{u:Value}(hb:H b=some (.tup (k.map kV)))(ry:RelV y u):
  KT H (putK kvs k y) (storedH xs k b u):=by
 have e:(kvs.any fun kv=>decide (kv.1=k))=(atKey xs k).isSome:=by
  rw[qN,(r.val k).sO,isSome_map]
 unfold putK storedH
 rw[e]
 by_cases q:(atKey xs k).isSome=true
 ·rw[if_pos q,if_pos q];exact r.QF k ry
 ·rw[if_neg q,if_neg q];exact Paired.snoc r ⟨rfl,hb,ry⟩
theorem KT.keeps {H H':Hp}{kvs:List (List Key×V)}{xs:List (List Key×Addr×Value)}(r:KT H kvs xs)(ht:∀b ys,H b=some (.tup ys)->H' b=some (.tup ys)):KT H' kvs xs:=
 Paired.P7 r fun _ _ z=>⟨z.1,ht _ _ z.2.1,z.2.2⟩
section
variable{P:Program}{w:World}{H:Hp}{h:Heap}{a:Addr}
theorem NU{u:HO}(ok:pU P w H h)(e:Rd H a u):dg P w H h a u:=e.ok ok
theorem yf{kvs:List (Key×V)}(ok:pU P w H h)(e:Rd H a (.dK kvs)):kvs.length<=sizeLine/\(a==sysModules)=false/\∃vs,KV kvs vs/\h.DictOf (di P w) a vs:=
 show dg P w H h a (.dK kvs)from NU ok e
theorem Va{kvs:List (Key×V)}(ok:pU P w H h)(e:H a=some (.dK kvs)):kvs.length<=sizeLine/\(a==sysModules)=false/\∃vs,KV kvs vs/\h.DictOf (di P w) a vs:=yf ok (.inl e)
theorem vO{ks:List Key}(ok:pU P w H h)(e:H a=some (.tup (ks.map kV))):(tupleKind (di P w)).is h ks a:=by
 obtain⟨_,its,r,o,h1,h2,n,h3⟩:=(show dg P w H h a (.tup (ks.map kV))from ok a _ e)
 exact⟨o,its.toArray,n,h1,h2,h3,by simpa using ye r⟩
theorem vP{kvs:List (List Key×V)}(ok:pU P w H h)(e:Rd H a (.dT kvs)):kvs.length<=sizeLine/\(a==sysModules)=false/\
  ∃xs,KT H kvs xs/\h.DictOfH (tupleKind (di P w)) a xs:=by
 obtain⟨z,y,xs,r,o,es,ep,h1,h2,h3,h4,h5⟩:=(show dg P w H h a (.dT kvs)from NU ok e)
 refine⟨z,y,xs,r,o,es,ep,h1,h2,h3,h4,fun x hx=>?_,h5⟩
 have all:∀{l:List (List Key×V)}{m:List (List Key×Addr×Value)},KT H l m->∀x∈m,(tupleKind (di P w)).is h x.1 x.2.1:=by
  intro l m q
  induction q with
  |nil=>intro x hx;exact nomatch hx
  | @cons p q ps qs hq t ih=>
   intro x hx
   rcases mem_cons.mp hx with e|hx
   ·subst e
    exact vO ok (by rw[<-hq.1];exact hq.2.1)
   ·exact ih x hx
 exact all r x hx
theorem Vb{kvs:List (List Key×V)}(ok:pU P w H h)(e:H a=some (.dT kvs)):kvs.length<=sizeLine/\(a==sysModules)=false/\
  ∃xs,KT H kvs xs/\h.DictOfH (tupleKind (di P w)) a xs:=vP ok (.inl e)
end
def mx(H:Hp)(a:Addr)(y:V)(r:Option V):Prop:=
 (∃kvs k,Rd H a (.dK kvs)/\y=kV k/\r=du kvs k)\/∃kvs k b,Rd H a (.dT kvs)/\y=.ref b/\H b=some (.tup (k.map kV))/\r=du kvs k
def Ab(H:Hp)(a:Addr)(y v:V)(H':Hp):Prop:=
 (∃kvs k,H a=some (.dK kvs)/\y=kV k/\kvs.length<sizeLine/\H'=upd H a (.dK (putK kvs k v)))\/
 ∃kvs k b,H a=some (.dT kvs)/\y=.ref b/\H b=some (.tup (k.map kV))/\kvs.length<sizeLine/\H'=upd H a (.dT (putK kvs k v))
theorem mx.t {H:Hp}{a b:Addr}{kvs:List (List Key×V)}{k:List Key}(e:H a=some (.dT kvs))(eb:H b=some (.tup (k.map kV))):mx H a (.ref b) (du kvs k):=.inr ⟨kvs,k,b,.inl e,rfl,eb,rfl⟩
theorem Ab.t {H:Hp}{a b:Addr}{kvs:List (List Key×V)}{k:List Key}{v:V}(e:H a=some (.dT kvs))(eb:H b=some (.tup (k.map kV)))(hl:kvs.length<sizeLine):
  Ab H a (.ref b) v (upd H a (.dT (putK kvs k v))):=.inr ⟨kvs,k,b,e,rfl,eb,hl,rfl⟩
section
variable{X:Cx}{pins:List (Addr×Obj)}{σ:St}{H:Hp}{s:Shared}{a:Addr}{y v:V}{u r:Value}{o:Option V}{A:Around}{E:Value->Shared->Prop}
theorem Inv.big (I:Inv X pins σ H s):sysModules<s.heap.objs.size:=by
 have h:mainGlobals<s.heap.objs.size:=(I.mod.glob.keeps I.bk).lt
 exact lt_trans (by decide) h
theorem Fx{Q:Value->Shared->Prop}(hu:A.units+1<cLine)(I:Inv X pins σ H s)(g:mx H a y (some v))(ry:RelV y u)(h:∀w' s',Inv X pins σ H s'->RelV v w'->Q w' s'):
  wpAny (model X.prog X.w) A (getItem (.ref a) u) Q E s:=by
 rcases g with⟨kvs,k,e,ey,l⟩|⟨kvs,k,b,e,ey,eb,l⟩
 ·subst ey
  obtain⟨z,hd,vs,rel,dd⟩:=yf I.hok e
  obtain⟨w',hw,nQ⟩:=nG.some_of (v:=v) (o:=valueAt vs k) (by rw[l];exact rel.val k)
  exact wpAny_getItem_of (Aa ry) dd.mapOf hw (h w' _ (I.tok _) nQ)
 ·subst ey
  cases (show u=Value.ref b from ry)
  obtain⟨z,hd,xs,rel,dd⟩:=vP I.hok e
  obtain⟨w',hw,nQ⟩:=nG.some_of (v:=v) (o:=(atKey xs k).map (·.2)) (by rw[l];exact rel.val k)
  obtain⟨p,hp,Xl⟩:=Option.map_eq_some_iff.mp hw
  refine wpAny_getItem_heap (tupleKind_room_in1 hu) (vO I.hok eb) dd hp ?_
  rw[Xl]
  exact h w' _ (I.tok _) nQ
theorem LM{Q:Value->Shared->Prop}(hu:A.units+1<cLine)(I:Inv X pins σ H s)(g:mx H a y o)(ry:RelV y u)(h:∀s',Inv X pins σ H s'->Q (.bool (!o.isSome)) s'):
  wpAny (model X.prog X.w) A (compareOp .NotIn u (.ref a)) Q E s:=by
 rcases g with⟨kvs,k,e,ey,l⟩|⟨kvs,k,b,e,ey,eb,l⟩
 ·subst ey
  obtain⟨z,hd,vs,rel,dd⟩:=yf I.hok e
  refine wpAny_notIn_of (Aa ry) hd dd.mapOf ?_
  rw[<-(rel.val k).sO,<-l]
  exact h _ (I.tok _)
 ·subst ey
  cases (show u=Value.ref b from ry)
  obtain⟨z,hd,xs,rel,dd⟩:=vP I.hok e
  refine wpAny_notIn_heap (tupleKind_room_in1 hu) (vO I.hok eb) hd dd ?_
  have q:=(rel.val k).sO
  rw[isSome_map]at q
  rw[<-q,<-l]
  exact h _ (I.tok _)
theorem C7{h':Heap}{t':Nat}{ob:HO}(I:Inv X pins σ H s)(mu:Uu (H a))(hs:Heap.SameBut a s.heap h')(he:∃q,h'.get? a=some q)(new:dg X.prog X.w (upd H a ob) h' a ob):
  Inv X pins σ (upd H a ob) {s with heap:=h',toks:=t'}:=
 I.write (x:=a) (e:=a) mu (.inl rfl) (fun b q hb z=>(hs.2 b hb).trans z) he new
theorem QG{P:Program}{w:World}{H':Hp}{h':Heap}{kvs:List (Key×V)}{vs:List (Key×Value)}(z:kvs.length<=sizeLine)(hd:(a==sysModules)=false)(rel:KV kvs vs)(dd:h'.DictOf (di P w) a vs):
  dg P w H' h' a (.dK kvs):=⟨z,hd,vs,rel,dd⟩
theorem Fy{H':Hp}{Q:Unit->Shared->Prop}(hu:A.units+1<cLine)(I:Inv X pins σ H s)(g:Ab H a y v H')(ry:RelV y u)(rv:RelV v r)(h:∀s',Inv X pins σ H' s'->Q () s'):
  wpAny (model X.prog X.w) A (setItem (.ref a) u r) Q E s:=by
 rcases g with⟨kvs,k,e,ey,l,eH⟩|⟨kvs,k,b,e,ey,eb,l,eH⟩
 ·subst ey eH
  obtain⟨z,hd,vs,rel,dd⟩:=Va I.hok e
  have hz:vs.length<=sizeLine:=by rw[<-rel.length];exact z
  have hl:(putK kvs k v).length<=sizeLine:=by have:=gk kvs k v;omega
  refine wpAny_setItem_pairs (hsz:=hz) (Aa ry) dd fun h' Xm hs=>h _ ?_
  have he:∃q,h'.get? a=some q:=let⟨q,_,_,hq,_⟩:=Xm;⟨q,hq⟩
  exact C7 I (by rw[e];exact True.intro) hs he (QG hl hd (rel.put k rv) Xm)
 ·subst ey eH
  cases (show u=Value.ref b from ry)
  obtain⟨z,hd,xs,rel,dd⟩:=Vb I.hok e
  have hz:xs.length<=sizeLine:=by rw[<-Paired.length rel];exact z
  have hl:(putK kvs k v).length<=sizeLine:=by have:=gk kvs k v;omega
  refine wpAny_setItem_heap (hsz:=hz) (tupleKind_room_in1 hu) (vO I.hok eb) dd fun h' Xm hs=>h _ ?_
  obtain⟨q,es,ep,hq,h2,h3,h4,_,h5⟩:=Xm
  refine C7 I (by rw[e];exact True.intro) hs ⟨q,hq⟩ ⟨hl,hd,_,(rel.put k eb rv).keeps fun c ys ec=>?_,q,es,ep,hq,h2,h3,h4,h5⟩
  rw[ai (bM ec e (fun z=>nomatch z))]
  exact ec
end
def Vc(i:Expr):Prop:=∀ov iv,subscripted i false ov iv=operate [ov,iv] (getItem ov iv)
theorem LN{prog:Program}{w:World}{A:Around}{E:Value->Shared->Prop}{s:Shared}{env:Env}{value slice:Expr}{pos:Pos}{T id:String}{Q:Value->Shared->Prop}
  (hl:typeLookup (.type T) "__getitem__"=pure (some (.builtin id)))(hs:Vc slice)
  (h:wpAny (model prog w) A (eval value env) (fun o s₁=>wpAny (model prog w) A (eval slice env) (fun i s₂=>s₂.TypeIs o T/\wpAny (model prog w) A (getItem o i) Q E s₂) E s₁) E s):
  wpAny (model prog w) A (eval (.Subscript value slice pos) env) Q E s:=by
 refine Subscript_ (wpAny_mono h (fun o s₁ h₁=>wpAny_mono h₁ (fun i s₂ h₂=>?_) fun _ _ x=>x) fun _ _ x=>x)
 obtain⟨hT,h₂⟩:=h₂
 unfold subscriptTail
 refine wpAny_bind ?_
 rw[getitemInPython_of_ne hT.not_modules]
 refine wpAny_bind (wpAny_specialOf hT hl ?_)
 have fin:wpAny (model prog w) A (subscripted slice false o i) (fun r s₃=>wpAny (model prog w) A (letTemporaryGo value o r>>=fun _=>pure r) Q E s₃) E s₂:=by
  rw[hs o i]
  exact wpAny_operating (wpAny_mono h₂ (fun r s₃ h₃=>wpAny_bind (wpAny_letTemporaryGo (wpAny_pure h₃))) fun _ _ x=>x)
 first
  |exact wpAny_pure (wpAny_bind fin)
  |exact wpAny_bind (wpAny_pure (wpAny_bind fin))
  |exact wpAny_bind fin
theorem Ac{X:Cx}{pins:List (Addr×Obj)}{σ:St}{H:Hp}{s:Shared}{a:Addr}{y:V}{o:Option V}(I:Inv X pins σ H s)(g:mx H a y o):s.TypeIs (.ref a) "dict":=by
 rcases g with⟨kvs,k,e,_,_⟩|⟨kvs,k,b,e,_,_,_⟩
 ·obtain⟨_,_,vs,_,dd⟩:=yf I.hok e
  exact dd.typeIs
 ·obtain⟨_,_,xs,_,dd⟩:=vP I.hok e
  exact dd.typeIs
def Vd(td ty:TE):TE:=fun σ H Q=>td σ H fun x H1=>ty σ H1 fun y H2=>∃a v,x=.ref a/\mx H2 a y (some v)/\Q v H2
def LO(ty td:TE):TE:=fun σ H Q=>ty σ H fun y H1=>td σ H1 fun x H2=>∃a o,x=.ref a/\mx H2 a y o/\Q (.bl (!o.isSome)) H2
def Ve(td ty tv:TE):TS:=fun D σ H=>tv σ H fun v H1=>td σ H1 fun x H2=>ty σ H2 fun y H3=>∃a H4,x=.ref a/\Ab H3 a y v H4/\D.nx σ H4
section
variable{X:Cx}{o i e value:Expr}{pos pos' Yv:Pos}{td ty tv:TE}
theorem yX(hu:X.A.units+1<cLine)(ho:PE X o td)(hi:PE X i ty)(hs:Vc i):PE X (.Subscript o i pos) (Vd td ty):=by
 intro pins s σ H Q I h
 refine LN PySem.F.slot_dict_getitem.lookup hs (cj (ho pins s σ H _ I h) fun u s1 ⟨x,H1,I1,rx,q1⟩=>cj (hi pins s1 σ H1 _ I1 q1) fun iv s2 ⟨y,H2,I2,ry,a,v,ex,g,q2⟩=>?_)
 subst ex
 obtain rfl:u=Value.ref a:=rx
 exact⟨Ac I2 g,Fx hu I2 g ry fun w' s3 I3 nQ=>⟨v,H2,I3,nQ,q2⟩⟩
theorem sP(hu:X.A.units+1<cLine)(hi:PE X i ty)(ho:PE X o td):PC X .NotIn i o (LO ty td):=by
 intro pins s σ H Q I h
 refine cj (hi pins s σ H _ I h) fun iv s1 ⟨y,H1,I1,ry,q1⟩=>cj (ho pins s1 σ H1 _ I1 q1) fun u s2 ⟨x,H2,I2,rx,a,ov,ex,g,q2⟩=>?_
 subst ex
 obtain rfl:u=Value.ref a:=rx
 exact LM hu I2 g ry fun s3 I3=>⟨.bl (!ov.isSome),H2,I3,rfl,q2⟩
theorem uX(hu:X.A.units+1<cLine)(ho:PE X o td)(hi:PE X i ty)(hv:PE X value tv)(hs:swapsWith value (some (.Subscript o i pos')) pos.line X.env=pure false):
  PS X (.Assign [.Subscript o i pos'] value pos) (Ve td ty tv):=by
 intro pins s σ H D I h
 refine wpAny_Assign_Subscript (cj (hv pins s σ H _ I h) fun r s1 ⟨v,H1,I1,rv,q1⟩=>cj (ho pins s1 σ H1 _ I1 q1) fun u s2 ⟨x,H2,I2,rx,q2⟩=>cj (hi pins s2 σ H2 _ I2 q2) fun iv s3 ⟨y,H3,I3,ry,a,H4,ex,g,q3⟩=>?_) hs
 subst ex
 obtain rfl:u=Value.ref a:=rx
 exact Fy hu I3 g ry rv fun s4 I4=>⟨σ,H4,I4,q3⟩
end
theorem Ho{P:Program}{w:World}{H:Hp}(h:Heap)(hb:sysModules<h.objs.size):dg P w H (h.push {cls:=.type "dict",data:=.dict #[]}) h.objs.size (.dT []):=
 ⟨zero_le _,beq_eq_false_iff_ne.mpr (Ne.symm (ne_of_lt hb)),[],.nil,_,#[],0,Heap.get?_push_size _ rfl,⟨rfl,rfl,rfl⟩,rfl,rfl,List.nodup_nil⟩
def QH:TE:=fun _ H Q=>∀p,H p=none->Q (.ref p) (upd H p (.dT []))
section
variable{X:Cx}{pos:Pos}
theorem qO:PE X (.Dict [] [] pos) QH:=fun pins s σ H Q I h=>
 wpAny_Dict_empty ⟨.ref s.heap.objs.size,_,I.laid (a:=s.heap.objs.size) (o:=.dT []) (t':=s.toks) (fun _ _ q=>Heap.get?_push_of_some _ q) (Nat.le_refl _) (Ho s.heap I.big),rfl,h _ (I.hok.fresh (Nat.le_refl _))⟩
end
end L2
namespace L2
open PySem PySem.Spec PyProof.Rows
variable{X:Cx}
structure M1(X:Cx)(o:Expr)(m:Str)(apos:Pos)(e:Expr)(bA:Pos):Prop where
 base:attributeBase o m X.env (eval o X.env)=eval o X.env
 few:((backTo bA (starEach [e] X.env)).all (fun x=> !x.1)&&(backToKw bA (keywordEach [] X.env)).all (fun x=>x.1.isSome)
  &&decide (([e]:List Expr).length+([]:List Keyword).length+(if([]:List Keyword).isEmpty then 0 else 1)<30))=true
 line:(apos.endLine==bA.line)=true
 trees:backTo bA (starEach [e] X.env)=[(false,eval e X.env)]
def IsD(H:Hp)(a:Addr):Prop:=(∃kvs,Rd H a (.dK kvs))\/∃kvs,Rd H a (.dT kvs)
theorem QI{X:Cx}{pins:List (Addr×Obj)}{σ:St}{H:Hp}{s:Shared}{a:Addr}(I:Inv X pins σ H s)(d:IsD H a):
  s.TypeIs (.ref a) "dict"/\(∀b,Value.ref a=.ref b->∃ob,s.heap.get? b=some ob/\ob.dict=none)/\(a==sysModules)=false:=by
 rcases d with⟨kvs,e⟩|⟨kvs,e⟩
 ·obtain⟨_,hd,vs,_,dd⟩:=yf I.hok e
  refine⟨dd.typeIs,fun b q=>?_,hd⟩
  cases q
  obtain⟨ob,_,_,h1,h2,_⟩:=dd
  exact⟨ob,h1,h2.2.1⟩
 ·obtain⟨_,hd,xs,_,dd⟩:=vP I.hok e
  refine⟨dd.typeIs,fun b q=>?_,hd⟩
  cases q
  obtain⟨ob,_,_,h1,h2,_⟩:=dd
  exact⟨ob,h1,h2.2.1⟩
section
variable{X:Cx}{pins:List (Addr×Obj)}{σ:St}{H:Hp}{s:Shared}{a:Addr}{y d:V}{u r:Value}{o:Option V}{A:Around}{E:Value->Shared->Prop}
theorem QJ{Q:Value->Shared->Prop}(hu:A.units+1<cLine)(I:Inv X pins σ H s)(g:mx H a y o)(ry:RelV y u)(h:∀w' s',Inv X pins σ H s'->RelV (o.getD .non) w'->Q w' s'):
  wpAny (model X.prog X.w) A (call (.builtin "dict.get") [.ref a,u]) Q E s:=by
 rcases g with⟨kvs,k,e,ey,l⟩|⟨kvs,k,b,e,ey,eb,l⟩
 ·subst ey
  obtain⟨z,hd,vs,rel,dd⟩:=yf I.hok e
  refine call_meetsIn slot_dict_get dd.typeIs entry_dict_get (PySem.F.args_dict_get_2 _ _) (meets_dict_get (di X.prog X.w) a (Aa ry) hd) ⟨_,dd.mapOf,h _ _ (I.tok _) ?_⟩
  rw[l]
  exact(rel.val k).getD rfl
 ·subst ey
  cases (show u=Value.ref b from ry)
  obtain⟨z,hd,xs,rel,dd⟩:=vP I.hok e
  refine call_meetsIn slot_dict_get dd.typeIs entry_dict_get (PySem.F.args_dict_get_2 _ _) (meetsH_dict_get (tupleKind (di X.prog X.w)) a b hd) ⟨tupleKind_room_in1 hu,k,xs,vO I.hok eb,dd,h _ _ (I.tok _) ?_⟩
  rw[l]
  exact(rel.val k).getD rfl
end
def QK(td ty:TE):TE:=fun σ H Q=>td σ H fun x H1=>∃a,x=.ref a/\IsD H1 a/\ty σ H1 fun y H2=>∃o,mx H2 a y o/\Q (o.getD .non) H2
section
variable{X:Cx}{o e f:Expr}{apos bA:Pos}{td ty tx:TE}
theorem Hq(hu:X.A.units+1<cLine)(ho:PE X o td)(he:PE X e ty)(m:M1 X o "get" apos e bA):PE X (.Call (.Attribute o "get" apos) [e] [] bA) (QK td ty):=by
 intro pins s σ H Q I h
 refine wpAny_Call_method m.base m.few m.line PySem.F.plainAttrs_dict slot_dict_get PySem.F.type_dict_get (cj (ho pins s σ H _ I h) fun u s1 ⟨x,H1,I1,rx,a,ex,d,q1⟩=>?_)
 subst ex
 obtain rfl:u=Value.ref a:=rx
 obtain⟨t1,t2,_⟩:=QI I1 d
 refine⟨t1,t2,?_⟩
 rw[m.trees]
 refine Calls.callWith_builtin rfl (Calls.evalArgs_plain (Calls.spliced_cons (cj (he pins s1 σ H1 _ I1 q1) fun iv s2 ⟨y,H2,I2,ry,ov,g,q2⟩=>Calls.spliced_nil ?_)))
 exact QJ hu I2 g ry fun w' s3 I3 nQ=>⟨_,H2,I3,nQ,q2⟩
end
end L2
namespace DL
open PySem PySem.Spec PyProof.Rows L2
abbrev St:=L2.St
inductive D where
 |non|bl (b:Bool)|int (i:Int)|str (x:Str)|lst (xs:List D)|tup (xs:List D)|exc (n:Str)|fn (n:Str)
 deriving Inhabited
inductive R (α:Type) where
 |ok (a:α)|err (c:Str)|bad
def R.bind {α β:Type}(r:R α)(f:α->R β):R β:=match r with
 |.ok a=>f a
 |.err c=>.err c
 |.bad=>.bad
def R.of {α:Type}:Option α->R α
 |some a=>.ok a
 |none=>.bad
theorem R.bV {α β:Type}(a:α)(f:α->R β):(R.ok a).bind f=f a:=rfl
theorem R.kD {α:Type}(a:α):R.of (some a)=.ok a:=rfl
def Good{α:Type}(E:Str->Hp->Prop)(H₀:Hp)(r:R α)(post:α->Prop):Prop:=match r with
 |.ok a=>post a
 |.err c=>∀H',aM H₀ H'->E c H'
 |.bad=>False
theorem Good.bind {α β:Type}{E:Str->Hp->Prop}{H₀:Hp}{r:R α}{k:α->R β}{post:β->Prop}(h:Good E H₀ (r.bind k) post):Good E H₀ r (fun a=>Good E H₀ (k a) post):=by
 cases r with
 |ok a=>exact h
 |err c=>exact h
 |bad=>exact h
theorem Good.mono {α:Type}{E:Str->Hp->Prop}{H₀:Hp}{r:R α}{p q:α->Prop}(h:Good E H₀ r p)(w:∀a,r=.ok a->p a->q a):Good E H₀ r q:=by
 cases r with
 |ok a=>exact w a rfl h
 |err c=>exact h
 |bad=>exact h
theorem Good.C8 {α β:Type}{E:Str->Hp->Prop}{H₀:Hp}{r:R α}{k:α->R β}{p:α->Prop}{q:β->Prop}(h:Good E H₀ r p)(w:∀a,r=.ok a->p a->Good E H₀ (k a) q):Good E H₀ (r.bind k) q:=by
 cases r with
 |ok a=>exact w a rfl h
 |err c=>exact h
 |bad=>exact h
theorem Good.of {α:Type}{E:Str->Hp->Prop}{H₀:Hp}{o:Option α}{p:α->Prop}(h:Good E H₀ (R.of o) p):∃a,o=some a/\p a:=by
 cases o with
 |none=>exact False.elim h
 |some a=>exact⟨a,rfl,h⟩
def KL(K:PySem.W.Frag)(a:Addr)(xs:List V):Prop:=∃(o:Obj)(its:Array Value)(n:Nat),K.lookup a=some o/\o.cls=.type "list"/\o.dict=none/\o.data=.seq its n/\its.size<=sizeLine/\Vals xs its.toList
def KT(K:PySem.W.Frag)(a:Addr)(xs:List V):Prop:=∃(o:Obj)(its:Array Value)(n:Nat),K.lookup a=some o/\o.cls=.type "tuple"/\o.data=.seq its n/\its.size<=sizeLine/\Vals xs its.toList
def uE(K:PySem.W.Frag)(P:Addr->Prop)(H:Hp)(a:Addr)(vs:List V):Prop:=(P a/\Rd H a (.lst vs))\/KL K a vs
def Fz(K:PySem.W.Frag)(P:Addr->Prop)(H:Hp)(a:Addr)(vs:List V):Prop:=(P a/\Rd H a (.tup vs))\/KT K a vs
theorem uE.sq {K:PySem.W.Frag}{P:Addr->Prop}{H:Hp}{a:Addr}{vs:List V}(h:uE K P H a vs):cX K H a vs:=h.elim (fun z=>.inl z.2) .inr
theorem Fz.sq {K:PySem.W.Frag}{P:Addr->Prop}{H:Hp}{a:Addr}{vs:List V}(h:Fz K P H a vs):z0 K H a vs:=h.elim (fun z=>.inl z.2) .inr
theorem uE.any {K:PySem.W.Frag}{H:Hp}{a:Addr}{vs:List V}(h:cX K H a vs):uE K (fun _=>True) H a vs:=h.elim (fun z=>.inl ⟨trivial,z⟩) .inr
def YQ(a C:Addr):Heap->Prop:=fun h=>∃vs,h.get? a=some {cls:=.ref C,data:=.fields vs}
def Is(K:PySem.W.Frag)(P:Addr->Prop)(H:Hp):D->V->Prop
 |.non,v=>v=.non
 |.bl b,v=>v=.bl b
 |.int i,v=>v=.int i
 |.str x,v=>v=.str x
 |.lst ds,v=>∃a vs,v=.ref a/\uE K P H a vs/\IsL ds vs
 |.tup ds,v=>∃a vs,v=.ref a/\Fz K P H a vs/\IsL ds vs
 |.exc n,v=>∃a C,v=.ref a/\P a/\nsIn K mainGlobals n=some (some (.ref C))/\H a=some (.ext (YQ a C))
 |.fn n,v=>∃a,v=.ref a/\nsIn K mainGlobals n=some (some (.ref a))
where
 IsL:List D->List V->Prop
 |[],vs=>vs=[]
 |d::ds,vs=>∃v r,vs=v::r/\Is K P H d v/\IsL ds r
abbrev IsL(K:PySem.W.Frag)(P:Addr->Prop)(H:Hp):List D->List V->Prop:=Is.IsL K P H
section
variable{K:PySem.W.Frag}{P P':Addr->Prop}{H H':Hp}
structure Ext(P P':Addr->Prop)(H H':Hp):Prop where
 p:∀a o,P a->H a=some o->P' a
 h:∀a o,P a->H a=some o->H' a=some o
theorem Ext.rd (e:Ext P P' H H'){a:Addr}{u:HO}(p:P a)(r:Rd H a u):P' a/\Rd H' a u:=by
 rcases r with r|⟨o,r⟩
 ·exact⟨e.p a _ p r,.inl (e.h a _ p r)⟩
 ·exact⟨e.p a _ p r,.inr ⟨o,e.h a _ p r⟩⟩
theorem uE.ext (e:Ext P P' H H'){a:Addr}{vs:List V}(h:uE K P H a vs):uE K P' H' a vs:=h.elim (fun z=>.inl (e.rd z.1 z.2)) .inr
theorem Fz.ext (e:Ext P P' H H'){a:Addr}{vs:List V}(h:Fz K P H a vs):Fz K P' H' a vs:=h.elim (fun z=>.inl (e.rd z.1 z.2)) .inr
mutual
theorem Is.ext (e:Ext P P' H H'):∀(d:D)(v:V),Is K P H d v->Is K P' H' d v
 |.non,_,h=>h
 |.bl _,_,h=>h
 |.int _,_,h=>h
 |.str _,_,h=>h
 |.lst ds,_,⟨a,vs,e1,l,q⟩=>⟨a,vs,e1,l.ext e,IsL.ext e ds vs q⟩
 |.tup ds,_,⟨a,vs,e1,l,q⟩=>⟨a,vs,e1,l.ext e,IsL.ext e ds vs q⟩
 |.exc n,_,⟨a,C,e1,p,c,q⟩=>⟨a,C,e1,e.p a _ p q,c,e.h a _ p q⟩
 |.fn _,_,h=>h
theorem IsL.ext (e:Ext P P' H H'):∀(ds:List D)(vs:List V),IsL K P H ds vs->IsL K P' H' ds vs
 |[],_,h=>h
 |d::ds,_,⟨v,r,e1,p,q⟩=>⟨v,r,e1,Is.ext e d v p,IsL.ext e ds r q⟩
end
theorem Ext.same (s:aM H H'):Ext P P H H':=⟨fun _ _ p _=>p,fun a o _ h=>s a o h⟩
theorem Is.same (s:aM H H'){d:D}{v:V}(h:Is K P H d v):Is K P H' d v:=Is.ext (.same s) d v h
theorem IsL.same (s:aM H H'){d:List D}{v:List V}(h:IsL K P H d v):IsL K P H' d v:=IsL.ext (.same s) d v h
theorem Is.weak {d:D}{v:V}(h:Is K P H d v):Is K (fun _=>True) H d v:=Is.ext ⟨fun _ _ _ _=>trivial,fun _ _ _ q=>q⟩ d v h
theorem IsL.weak {d:List D}{v:List V}(h:IsL K P H d v):IsL K (fun _=>True) H d v:=IsL.ext ⟨fun _ _ _ _=>trivial,fun _ _ _ q=>q⟩ d v h
def toV:D->Option V
 |.non=>some .non
 |.bl b=>some (.bl b)
 |.int i=>some (.int i)
 |.str x=>some (.str x)
 |_=>none
theorem Is.sc {d:D}{z:V}(h:toV d=some z):Is K P H d z:=by
 cases d with
 |non=>cases h;rfl
 |bl b=>cases h;rfl
 |int b=>cases h;rfl
 |str b=>cases h;rfl
 |lst b=>cases h
 |exc _=>cases h
 |fn _=>cases h
 |tup b=>cases h
theorem Is.NV {d:D}{z v:V}(h:toV d=some z)(i:Is K P H d v):v=z:=by
 cases d with
 |non=>cases h;exact i
 |bl b=>cases h;exact i
 |int b=>cases h;exact i
 |str b=>cases h;exact i
 |lst b=>cases h
 |exc _=>cases h
 |fn _=>cases h
 |tup b=>cases h
theorem IsL.length:∀{ds:List D}{vs:List V},IsL K P H ds vs->vs.length=ds.length
 |[],_,h=>by subst h;rfl
 |d::ds,_,⟨v,r,e,_,q⟩=>by subst e;simp[IsL.length q]
theorem IsL.get:∀{ds:List D}{vs:List V}{i:Nat}{d:D},IsL K P H ds vs->ds[i]?=some d->∃v,vs[i]?=some v/\Is K P H d v
 |[],_,_,_,_,e=>by simp at e
 |d::ds,_,0,_,⟨v,r,e,p,q⟩,e2=>by subst e;simp at e2;subst e2;exact⟨v,rfl,p⟩
 |d::ds,_,i+1,_,⟨v,r,e,p,q⟩,e2=>by
  subst e
  obtain⟨v',h1,h2⟩:=IsL.get (i:=i) q (by simpa using e2)
  exact⟨v',by simpa using h1,h2⟩
theorem IsL.app:∀{ds es:List D}{vs ws:List V},IsL K P H ds vs->IsL K P H es ws->IsL K P H (ds++es) (vs++ws)
 |[],_,_,_,h,q=>by
  have h':_=[]:=h
  subst h';exact q
 |d::ds,_,_,_,⟨v,r,e,p,q⟩,q2=>by subst e;exact⟨v,_,rfl,p,IsL.app q q2⟩
theorem IsL.one {d:D}{v:V}(h:Is K P H d v):IsL K P H [d] [v]:=⟨v,[],rfl,h,rfl⟩
theorem IsL.cons {d:D}{v:V}{ds:List D}{vs:List V}(h:Is K P H d v)(q:IsL K P H ds vs):IsL K P H (d::ds) (v::vs):=⟨v,vs,rfl,h,q⟩
theorem IsL.drop:∀{ds:List D}{vs:List V}(n:Nat),IsL K P H ds vs->IsL K P H (ds.drop n) (vs.drop n)
 |_,_,0,h=>h
 |[],_,n+1,h=>by
  have h':_=[]:=h
  subst h';exact rfl
 |d::ds,_,n+1,⟨v,r,e,p,q⟩=>by subst e;exact IsL.drop n q
theorem IsL.take:∀{ds:List D}{vs:List V}(n:Nat),IsL K P H ds vs->IsL K P H (ds.take n) (vs.take n)
 |_,_,0,_=>rfl
 |[],_,n+1,h=>by
  have h':_=[]:=h
  subst h';exact rfl
 |d::ds,_,n+1,⟨v,r,e,p,q⟩=>by subst e;exact⟨v,_,rfl,p,IsL.take n q⟩
theorem IsL.set:∀{ds:List D}{vs:List V}{d:D}{v:V}(i:Nat),IsL K P H ds vs->Is K P H d v->IsL K P H (ds.set i d) (vs.set i v)
 |[],_,_,_,_,h,_=>by
  have h':_=[]:=h
  subst h';exact rfl
 |d::ds,_,_,_,0,⟨v,r,e,p,q⟩,h=>by subst e;exact⟨_,_,rfl,h,q⟩
 |d::ds,_,_,_,i+1,⟨v,r,e,p,q⟩,h=>by subst e;exact⟨v,_,rfl,p,IsL.set i q h⟩
end
abbrev LP:=Int×Int×List Int
inductive Ct where
 |ls (nss:List (List Int))|tp (nss:List (List Int))|dk (ks:List Int)|tq (n:Int) (ns:List Int)|tr (ts:List LP)
instance:Coe (List (List Int)) Ct:=⟨Ct.ls⟩
inductive Sl where
 |no|val (d:D)|own (xs:List D)|raw (v:V)|deep (c:Ct)
abbrev DE:=List Sl
structure Gh where
 P₀:Addr->Prop
 H₀:Hp
def Gh.P (g:Gh)(os:List Addr)(a:Addr):Prop:=(g.P₀ a\/g.H₀ a=none)/\a∉os
structure zO(hd:List V->HO)(H:Hp)(os:List Addr)(a:Addr)(as:List Addr)(nss:List (List Int)):Prop where
 ma:a∈os
 ha:H a=some (hd (as.map V.ref))
 len:as.length=nss.length
 nd:(a::as).Nodup
 it:∀(k:Nat)(b:Addr)(ns:List Int),as[k]?=some b->nss[k]?=some ns->b∈os/\H b=some (.lst (ns.map V.int))
theorem zO.mem {hd:List V->HO}{H:Hp}{os:List Addr}{a:Addr}{as:List Addr}{nss:List (List Int)}(d:zO hd H os a as nss):∀x∈a::as,x∈os/\∃o,H x=some o:=fun x hx=>by
 rcases mem_cons.mp hx with rfl|hx
 ·exact⟨d.ma,_,d.ha⟩
 ·obtain⟨k,hk,rfl⟩:=getElem_of_mem hx
  have LQ:k<nss.length:=by rw[<-d.len];exact hk
  have q:=d.it k _ _ (getElem?_eq_getElem hk) (getElem?_eq_getElem LQ)
  exact⟨q.1,_,q.2⟩
theorem zO.to {hd:List V->HO}{H H':Hp}{os jh:List Addr}{a:Addr}{as:List Addr}{nss:List (List Int)}(d:zO hd H os a as nss)(h:∀x∈a::as,x∈jh/\H' x=H x):zO hd H' jh a as nss:=
 ⟨(h a (by simp)).1,by rw[(h a (by simp)).2];exact d.ha,d.len,d.nd,fun k b ns e1 e2=>by
  have q:=d.it k b ns e1 e2
  have hb:=h b (mem_cons_of_mem _ (mem_of_getElem? e1))
  exact⟨hb.1,by rw[hb.2];exact q.2⟩⟩
def Vf(H:Hp)(as:List Addr)(t:LP)(v:V):Prop:=∃b c,v=.ref b/\b∈as/\c∈as/\H b=some (.tup [.int t.1,.int t.2.1,.ref c])/\H c=some (.lst (t.2.2.map V.int))
structure QL(H:Hp)(os:List Addr)(a:Addr)(as:List Addr)(ts:List LP):Prop where
 ma:a∈os
 na:a∉as
 mem:∀x∈as,x∈os/\∃o,H x=some o
 at_:∃vs,H a=some (.lst vs)/\vs.length=ts.length/\∀(k:Nat)(t:LP)(v:V),ts[k]?=some t->vs[k]?=some v->Vf H as t v
theorem Vf.to {H H':Hp}{as as':List Addr}{t:LP}{v:V}(d:Vf H as t v)(h:∀x∈as,x∈as'/\H' x=H x):Vf H' as' t v:=by
 obtain⟨b,c,e,h1,h2,h3,h4⟩:=d
 exact⟨b,c,e,(h b h1).1,(h c h2).1,by rw[(h b h1).2];exact h3,by rw[(h c h2).2];exact h4⟩
theorem QL.to {H H':Hp}{os jh:List Addr}{a:Addr}{as:List Addr}{ts:List LP}(d:QL H os a as ts)(h:∀x∈a::as,x∈jh/\H' x=H x):QL H' jh a as ts:=by
 obtain⟨vs,h1,h2,h3⟩:=d.at_
 refine⟨(h a (by simp)).1,d.na,fun x hx=>?_,vs,by rw[(h a (by simp)).2];exact h1,h2,fun k t v e1 e2=>(h3 k t v e1 e2).to fun x hx=>⟨hx,(h x (mem_cons_of_mem _ hx)).2⟩⟩
 obtain⟨q1,o,q2⟩:=d.mem x hx
 have q:=h x (mem_cons_of_mem _ hx)
 exact⟨q.1,o,by rw[q.2];exact q2⟩
def kvT(ks:List Int):List (Key×V):=ks.map fun k=>(Sum.inl k,V.bl true)
abbrev Dp(H:Hp)(os:List Addr)(a:Addr)(as:List Addr)(c:Ct):Prop:=match c with
 |.ls nss=>zO HO.lst H os a as nss
 |.tp nss=>zO HO.tup H os a as nss
 |.dk ks=>a∈os/\as=[]/\H a=some (.dK (kvT ks))
 |.tq n ns=>∃b,as=[b]/\a∈os/\b∈os/\a≠b/\H a=some (.tup [.int n,.ref b])/\H b=some (.lst (ns.map V.int))
 |.tr ts=>QL H os a as ts
theorem Dp.mem {H:Hp}{os:List Addr}{a:Addr}{as:List Addr}{c:Ct}(d:Dp H os a as c):∀x∈a::as,x∈os/\∃o,H x=some o:=by
 cases c with
 |ls nss=>exact zO.mem d
 |tp nss=>exact zO.mem d
 |dk ks=>
  obtain⟨h1,rfl,h2⟩:=d
  intro x hx
  rcases mem_cons.mp hx with rfl|hx
  ·exact⟨h1,_,h2⟩
  ·cases hx
 |tq n ns=>
  obtain⟨b,rfl,h1,h2,h3,h4,h5⟩:=d
  intro x hx
  rcases mem_cons.mp hx with rfl|hx
  ·exact⟨h1,_,h4⟩
  ·rcases mem_cons.mp hx with rfl|hx
   ·exact⟨h2,_,h5⟩
   ·cases hx
 |tr ts=>
  have d':QL H os a as ts:=d
  intro x hx
  rcases mem_cons.mp hx with rfl|hx
  ·obtain⟨vs,h1,_⟩:=d'.at_
   exact⟨d'.ma,_,h1⟩
  ·exact d'.mem x hx
theorem Dp.to {H H':Hp}{os jh:List Addr}{a:Addr}{as:List Addr}{c:Ct}(d:Dp H os a as c)(h:∀x∈a::as,x∈jh/\H' x=H x):Dp H' jh a as c:=by
 cases c with
 |ls nss=>exact zO.to d h
 |tp nss=>exact zO.to d h
 |dk ks=>
  obtain⟨h1,rfl,h2⟩:=d
  exact⟨(h a (by simp)).1,rfl,by rw[(h a (by simp)).2];exact h2⟩
 |tq n ns=>
  obtain⟨b,rfl,h1,h2,h3,h4,h5⟩:=d
  exact⟨b,rfl,(h a (by simp)).1,(h b (by simp)).1,h3,by rw[(h a (by simp)).2];exact h4,by rw[(h b (by simp)).2];exact h5⟩
 |tr ts=>exact QL.to d h
theorem Dp.ma {H:Hp}{os:List Addr}{a:Addr}{as:List Addr}{nss:List (List Int)}(d:Dp H os a as (.ls nss)):a∈os:=zO.ma d
theorem Dp.ha {H:Hp}{os:List Addr}{a:Addr}{as:List Addr}{nss:List (List Int)}(d:Dp H os a as (.ls nss)):H a=some (.lst (as.map V.ref)):=zO.ha d
theorem Dp.len {H:Hp}{os:List Addr}{a:Addr}{as:List Addr}{nss:List (List Int)}(d:Dp H os a as (.ls nss)):as.length=nss.length:=zO.len d
theorem Dp.nd {H:Hp}{os:List Addr}{a:Addr}{as:List Addr}{nss:List (List Int)}(d:Dp H os a as (.ls nss)):(a::as).Nodup:=zO.nd d
theorem Dp.it {H:Hp}{os:List Addr}{a:Addr}{as:List Addr}{nss:List (List Int)}(d:Dp H os a as (.ls nss)):∀(k:Nat)(b:Addr)(ns:List Int),as[k]?=some b->nss[k]?=some ns->b∈os/\H b=some (.lst (ns.map V.int)):=zO.it d
structure TV(A:Nat->List Addr)(env:DE)(σ:St)(H:Hp)(os:List Addr):Prop where
 dp:∀(i:Nat)(nss:Ct),env[i]?=some (.deep nss)->∃a as,A i=a::as/\σ[i]?=some (some (.ref a))/\Dp H os a as nss
 ow:∀(i:Nat)(nss:Ct)(j:Nat)(xs:List D)(b:Addr),env[i]?=some (.deep nss)->env[j]?=some (.own xs)->σ[j]?=some (some (.ref b))->b∉A i
 dj:∀(i j:Nat)(nss p7:Ct),i≠j->env[i]?=some (.deep nss)->env[j]?=some (.deep p7)->∀x∈A i,x∉A j
theorem TV.mem {A:Nat->List Addr}{env:DE}{σ:St}{H:Hp}{os:List Addr}(d:TV A env σ H os){i:Nat}{nss:Ct}(e:env[i]?=some (.deep nss)):∀x∈A i,x∈os/\∃o,H x=some o:=fun x hx=>by
 obtain⟨a,as,h1,_,h3⟩:=d.dp i nss e
 rw[h1]at hx
 exact h3.mem x hx
theorem TV.to {A:Nat->List Addr}{env xJ:DE}{σ σ':St}{H H':Hp}{os jh:List Addr}(d:TV A env σ H os)
  (hd:∀(j:Nat)(nss:Ct),xJ[j]?=some (.deep nss)->env[j]?=some (.deep nss)/\σ'[j]?=σ[j]?)
  (ho:∀(j:Nat)(xs:List D)(b:Addr),xJ[j]?=some (.own xs)->σ'[j]?=some (some (.ref b))->(∃ys,env[j]?=some (.own ys)/\σ[j]?=some (some (.ref b)))\/b∉os)
  (hH:∀(i:Nat)(nss:Ct),env[i]?=some (.deep nss)->∀x∈A i,x∈jh/\H' x=H x):TV A xJ σ' H' jh where
 dp i nss e:=by
  obtain⟨e',q⟩:=hd i nss e
  obtain⟨a,as,h1,h2,h3⟩:=d.dp i nss e'
  exact⟨a,as,h1,by rw[q];exact h2,h3.to fun x hx=>hH i nss e' x (by rw[h1];exact hx)⟩
 ow i nss j xs b e1 e2 e3:=by
  obtain⟨LR,_⟩:=hd i nss e1
  rcases ho j xs b e2 e3 with⟨ys,q1,q2⟩|q
  ·exact d.ow i nss j ys b LR q1 q2
  ·exact fun z=>q (d.mem LR b z).1
 dj i j nss p7 hij e1 e2:=d.dj i j nss p7 hij (hd i nss e1).1 (hd j p7 e2).1
def BV(env:DE)(σ:St)(H:Hp)(os:List Addr):Prop:=∃A,TV A env σ H os
theorem BV.none {env:DE}{σ:St}{H:Hp}{os:List Addr}(h:∀(i:Nat)(nss:Ct),env[i]?≠some (.deep nss)):BV env σ H os:=
 ⟨fun _=>[],fun i nss e=>(h i nss e).elim,fun i nss _ _ _ e=>(h i nss e).elim,fun i _ nss _ _ e=>(h i nss e).elim⟩
structure Rel(K:PySem.W.Frag)(g:Gh)(env:DE)(σ:St)(H:Hp)(os:List Addr):Prop where
 len:σ.length=env.length
 ext:aM g.H₀ H
 val:∀(i:Nat)(d:D),env[i]?=some (.val d)->∃v,σ[i]?=some (some v)/\Is K (g.P os) H d v
 own:∀(i:Nat)(xs:List D),env[i]?=some (.own xs)->∃a vs,σ[i]?=some (some (.ref a))/\a∈os/\H a=some (.lst vs)/\IsL K (g.P os) H xs vs
 inj:∀(i j:Nat)(xs ys:List D)(a:Addr),env[i]?=some (.own xs)->env[j]?=some (.own ys)->σ[i]?=some (some (.ref a))->σ[j]?=some (some (.ref a))->i=j
 new:∀a∈os,g.H₀ a=none/\∃o,H a=some o
 raw:∀(i:Nat)(v:V),env[i]?=some (.raw v)->σ[i]?=some (some v)
 Hr:BV env σ H os
section
variable{K:PySem.W.Frag}{g:Gh}{env:DE}{σ:St}{H H':Hp}{os:List Addr}
theorem Rel.same (r:Rel K g env σ H os)(s:aM H H'):Rel K g env σ H' os:=
 ⟨r.len,r.ext.trans s,fun i d e=>let⟨v,h1,h2⟩:=r.val i d e;⟨v,h1,h2.same s⟩,
  fun i xs e=>let⟨a,vs,h1,h2,h3,h4⟩:=r.own i xs e;⟨a,vs,h1,h2,s a _ h3,h4.same s⟩,r.inj,fun a ha=>⟨(r.new a ha).1,let⟨o,h⟩:=(r.new a ha).2;⟨o,s a o h⟩⟩,r.raw,by
  obtain⟨A,d⟩:=r.Hr
  exact⟨A,d.to (fun j nss e=>⟨e,rfl⟩) (fun j xs b e q=>.inl ⟨xs,e,q⟩) fun i nss e x hx=>by
   obtain⟨q1,o,q2⟩:=d.mem e x hx
   exact⟨q1,by rw[s x o q2,q2]⟩⟩⟩
theorem Rel.fresh (r:Rel K g env σ H os){a:Addr}(h:H a=none):g.P os a:=by
 refine⟨.inr (r.ext.free h),fun hm=>?_⟩
 obtain⟨o,e⟩:=(r.new a hm).2
 rw[h]at e;cases e
theorem aO{p:Addr}(h:H p=none)(o:HO):aM H (upd H p o):=fun b u q=>by rw[ai (au q h)];exact q
theorem Rel.set (r:Rel K g env σ H os)(i:Nat){d:D}{v:V}(h:Is K (g.P os) H d v):Rel K g (env.set i (.val d)) (σ.set i (some v)) H os:=by
 refine⟨by simp[r.len],r.ext,fun j d' e=>?_,fun j xs e=>?_,fun j k xs ys a e1 e2 e3 e4=>?_,r.new,fun j w e=>?_,?_⟩
 ·by_cases hj:i=j
  ·subst hj
   have hi:i<env.length:=by
    have:=(List.getElem?_eq_some_iff.mp e).1
    simpa using this
   rw[getElem?_set_self hi]at e
   cases e
   exact⟨v,by rw[getElem?_set_self (by rw[r.len];exact hi)],h⟩
  ·rw[getElem?_set_ne hj]at e
   obtain⟨v',h1,h2⟩:=r.val j d' e
   exact⟨v',by rw[getElem?_set_ne hj];exact h1,h2⟩
 ·by_cases hj:i=j
  ·subst hj
   have hi:i<env.length:=by
    have:=(List.getElem?_eq_some_iff.mp e).1
    simpa using this
   rw[getElem?_set_self hi]at e
   cases e
  ·rw[getElem?_set_ne hj]at e
   obtain⟨a,vs,h1,h2⟩:=r.own j xs e
   exact⟨a,vs,by rw[getElem?_set_ne hj];exact h1,h2⟩
 ·have f:∀(j:Nat)(xs:List D),(env.set i (Sl.val d))[j]?=some (.own xs)->i≠j:=fun j xs e hj=>by
   subst hj
   have hi:i<env.length:=by
    have:=(List.getElem?_eq_some_iff.mp e).1
    simpa using this
   rw[getElem?_set_self hi]at e
   cases e
  have hj:=f j xs e1
  have hk:=f k ys e2
  rw[getElem?_set_ne hj]at e1 e3
  rw[getElem?_set_ne hk]at e2 e4
  exact r.inj j k xs ys a e1 e2 e3 e4
 ·by_cases hj:i=j
  ·subst hj
   have hi:i<env.length:=by
    have:=(List.getElem?_eq_some_iff.mp e).1
    simpa using this
   rw[getElem?_set_self hi]at e
   cases e
  ·rw[getElem?_set_ne hj]at e⊢
   exact r.raw j w e
 ·obtain⟨A,dd⟩:=r.Hr
  have f:∀(j:Nat)(sl:Sl),(env.set i (Sl.val d))[j]?=some sl->(∀d',sl≠.val d')->i≠j/\env[j]?=some sl:=fun j sl q hn=>by
   by_cases hj:i=j
   ·subst hj
    have hi:i<env.length:=by
     have:=(List.getElem?_eq_some_iff.mp q).1
     simpa using this
    rw[getElem?_set_self hi]at q
    exact(hn d (Option.some.inj q).symm).elim
   ·rw[getElem?_set_ne hj]at q
    exact⟨hj,q⟩
  refine⟨A,dd.to (fun j nss q=>?_) (fun j xs b q z=>?_) fun j nss q x hx=>⟨(dd.mem q x hx).1,rfl⟩⟩
  ·obtain⟨hj,q⟩:=f j _ q (fun _ z=>nomatch z)
   exact⟨q,by rw[getElem?_set_ne hj]⟩
  ·obtain⟨hj,q⟩:=f j _ q (fun _ z=>nomatch z)
   rw[getElem?_set_ne hj]at z
   exact .inl ⟨xs,q,z⟩
theorem Rel.apart (r:Rel K g env σ H os){a:Addr}(s:aM H H')(hn:H a=none):Ext (g.P os) (g.P (a::os)) H H':=
 ⟨fun b o p e=>⟨p.1,fun hm=>by
  rcases mem_cons.mp hm with z|z
  ·rw[z,hn]at e;cases e
  ·exact p.2 z⟩,fun b o _ e=>s b o e⟩
theorem bu{α:Type}{l:List α}{i:Nat}{x y:α}(e:(l.set i x)[i]?=some y):y=x:=by
 have hi:i<l.length:=by
  have:=(List.getElem?_eq_some_iff.mp e).1
  simpa using this
 rw[getElem?_set_self hi]at e
 cases e;rfl
theorem yg{α:Type}{l:List α}{i j:Nat}{x y:α}(e:(l.set i x)[j]?=some y):j<l.length:=by
 have:=(List.getElem?_eq_some_iff.mp e).1
 simpa using this
theorem Rel.YR (r:Rel K g env σ H os)(s:aM H H')(i:Nat){xs:List D}{vs:List V}{a:Addr}(hn:H a=none)(hH:H' a=some (.lst vs))(h:IsL K (g.P (a::os)) H' xs vs):
  Rel K g (env.set i (.own xs)) (σ.set i (some (.ref a))) H' (a::os):=by
 have ap:=r.apart s hn
 have old:∀(j:Nat)(ys:List D),env[j]?=some (.own ys)->σ[j]?=some (some (.ref a))->False:=fun j ys e q=>by
  obtain⟨b,ws,h1,h2,h3,_⟩:=r.own j ys e
  rw[q]at h1
  cases h1
  rw[hn]at h3;cases h3
 refine⟨by simp[r.len],r.ext.trans s,fun j d' e=>?_,fun j ys e=>?_,fun j k ys zs b e1 e2 e3 e4=>?_,fun b hb=>?_,fun j w e=>?_,?_⟩
 ·by_cases hj:i=j
  ·subst hj
   exact nomatch bu e
  ·rw[getElem?_set_ne hj]at e
   obtain⟨v,h1,h2⟩:=r.val j d' e
   exact⟨v,by rw[getElem?_set_ne hj];exact h1,Is.ext ap _ _ h2⟩
 ·by_cases hj:i=j
  ·subst hj
   have hi:=yg e
   have e':=bu e
   cases e'
   exact⟨a,vs,by rw[getElem?_set_self (by rw[r.len];exact hi)],by simp,hH,h⟩
  ·rw[getElem?_set_ne hj]at e
   obtain⟨b,ws,h1,h2,h3,h4⟩:=r.own j ys e
   exact⟨b,ws,by rw[getElem?_set_ne hj];exact h1,mem_cons_of_mem _ h2,s _ _ h3,IsL.ext ap _ _ h4⟩
 ·by_cases hj:i=j
  ·subst hj
   by_cases hk:i=k
   ·exact hk
   ·have e3':=bu e3
    cases e3'
    rw[getElem?_set_ne hk]at e2 e4
    exact(old k zs e2 e4).elim
  ·by_cases hk:i=k
   ·subst hk
    have e4':=bu e4
    cases e4'
    rw[getElem?_set_ne hj]at e1 e3
    exact(old j ys e1 e3).elim
   ·rw[getElem?_set_ne hj]at e1 e3
    rw[getElem?_set_ne hk]at e2 e4
    exact r.inj j k ys zs b e1 e2 e3 e4
 ·rcases mem_cons.mp hb with rfl|hb
  ·exact⟨r.ext.free hn,_,hH⟩
  ·obtain⟨h1,o,h2⟩:=r.new b hb
   exact⟨h1,o,s _ _ h2⟩
 ·by_cases hj:i=j
  ·subst hj
   exact nomatch bu e
  ·rw[getElem?_set_ne hj]at e⊢
   exact r.raw j w e
 ·obtain⟨A,dd⟩:=r.Hr
  have f:∀(j:Nat)(sl:Sl),(env.set i (Sl.own xs))[j]?=some sl->i≠j->env[j]?=some sl:=fun j sl q hj=>by
   rwa [getElem?_set_ne hj]at q
  refine⟨A,dd.to (fun j nss q=>?_) (fun j ys b q z=>?_) fun j nss q x hx=>?_⟩
  ·by_cases hj:i=j
   ·subst hj
    exact nomatch bu q
   ·exact⟨f j _ q hj,by rw[getElem?_set_ne hj]⟩
  ·by_cases hj:i=j
   ·subst hj
    have z':=bu z
    cases z'
    exact .inr fun hm=>by
     obtain⟨o,ho⟩:=(r.new a hm).2
     rw[hn]at ho
     cases ho
   ·rw[getElem?_set_ne hj]at z
    exact .inl ⟨ys,f j _ q hj,z⟩
  ·obtain⟨q1,o,q2⟩:=dd.mem q x hx
   exact⟨mem_cons_of_mem _ q1,by rw[s x o q2,q2]⟩
theorem Rel.mut (r:Rel K g env σ H os){i:Nat}{xs YS:List D}{C9:List V}{a:Addr}(e:env[i]?=some (.own xs))(hσ:σ[i]?=some (some (.ref a)))(ha:a∈os)(h:IsL K (g.P os) H YS C9):
  Rel K g (env.set i (.own YS)) σ (upd H a (.lst C9)) os:=by
 have ex:Ext (g.P os) (g.P os) H (upd H a (.lst C9)):=⟨fun _ _ p _=>p,fun b o p q=>by rw[ai (fun z=>p.2 (by rw[z];exact ha))];exact q⟩
 refine⟨by simp[r.len],fun b o q=>?_,fun j d' e'=>?_,fun j ys e'=>?_,fun j k ys zs b e1 e2 e3 e4=>?_,fun b hb=>?_,fun j w e'=>?_,?_⟩
 ·rw[ai (fun z=>by rw[z,(r.new a ha).1]at q;cases q)]
  exact r.ext b o q
 ·by_cases hj:i=j
  ·subst hj
   exact nomatch bu e'
  ·rw[getElem?_set_ne hj]at e'
   obtain⟨v,h1,h2⟩:=r.val j d' e'
   exact⟨v,h1,Is.ext ex _ _ h2⟩
 ·by_cases hj:i=j
  ·subst hj
   have e2:=bu e'
   cases e2
   exact⟨a,C9,hσ,ha,ar,IsL.ext ex _ _ h⟩
  ·rw[getElem?_set_ne hj]at e'
   obtain⟨b,ws,h1,h2,h3,h4⟩:=r.own j ys e'
   have hb:b≠a:=fun z=>by
    subst z
    exact hj (r.inj i j xs ys b e e' hσ h1)
   exact⟨b,ws,h1,h2,by rw[ai hb];exact h3,IsL.ext ex _ _ h4⟩
 ·have f:∀(j:Nat)(ys:List D),(env.set i (Sl.own YS))[j]?=some (.own ys)->∃ys',env[j]?=some (.own ys'):=fun j ys q=>by
   by_cases hj:i=j
   ·subst hj;exact⟨xs,e⟩
   ·rw[getElem?_set_ne hj]at q;exact⟨ys,q⟩
  obtain⟨y1,f1⟩:=f j ys e1
  obtain⟨y2,f2⟩:=f k zs e2
  exact r.inj j k y1 y2 b f1 f2 e3 e4
 ·obtain⟨h1,o,h2⟩:=r.new b hb
  refine⟨h1,?_⟩
  by_cases z:b=a
  ·exact⟨_,by rw[z];exact ar⟩
  ·exact⟨o,by rw[ai z];exact h2⟩
 ·by_cases hj:i=j
  ·subst hj
   exact nomatch bu e'
  ·rw[getElem?_set_ne hj]at e'
   exact r.raw j w e'
 ·obtain⟨A,dd⟩:=r.Hr
  refine⟨A,dd.to (fun j nss q=>?_) (fun j ys b q z=>?_) fun j nss q x hx=>⟨(dd.mem q x hx).1,?_⟩⟩
  ·by_cases hj:i=j
   ·subst hj
    exact nomatch bu q
   ·rw[getElem?_set_ne hj]at q
    exact⟨q,rfl⟩
  ·by_cases hj:i=j
   ·subst hj
    exact .inl ⟨xs,e,z⟩
   ·rw[getElem?_set_ne hj]at q
    exact .inl ⟨ys,q,z⟩
  ·have hxa:x≠a:=fun z=>dd.ow j nss i xs a q e hσ (by rw[<-z];exact hx)
   rw[ai hxa]
end
section
variable(K:PySem.W.Frag)(E:Str->Hp->Prop)
def tD(f:DE->R D):TE:=fun σ H Q=>∃g env os,Rel K g env σ H os/\Good E g.H₀ (f env) fun d=>∀v H',aM H H'->Is K (g.P os) H' d v->Q v H'
def tB(f:DE->R D):TE:=fun σ H Q=>∃g env os,Rel K g env σ H os/\Good E g.H₀ (f env) fun d=>∀v H',aM H H'->Is K (fun _=>True) H' d v->Q v H'
def tF(f:DE->R (List D)):TE:=fun σ H Q=>∃g env os,Rel K g env σ H os/\Good E g.H₀ (f env) fun xs=>∀a vs H',aM H H'->H a=none->H' a=some (.lst vs)->IsL K (g.P (a::os)) H' xs vs->Q (.ref a) H'
def tL(f:DE->R (List D)):TE:=fun σ H Q=>∃g env os,Rel K g env σ H os/\Good E g.H₀ (f env) fun xs=>∀a vs H',aM H H'->cX K H' a vs->IsL K (g.P os) H' xs vs->Q (.ref a) H'
def tT(f:DE->R Bool):TT:=fun σ H Q=>∃g env os,Rel K g env σ H os/\Good E g.H₀ (f env) fun b=>∀H',aM H H'->Q b H'
def Hs(f:DE->R (List D)):TA:=fun σ H Q=>∃g env os,Rel K g env σ H os/\Good E g.H₀ (f env) fun ds=>∀vs H',aM H H'->IsL K (g.P os) H' ds vs->Q vs H'
def sQ(f:DE->R (List D)):TA:=fun σ H Q=>∃g env os,Rel K g env σ H os/\Good E g.H₀ (f env) fun ds=>∀vs H',aM H H'->IsL K (fun _=>True) H' ds vs->Q vs H'
end
inductive Out where
 |nx (e:DE)|bk (e:DE)|ct (e:DE)|rt (d:D)|o8 (xs:List D)|Dc (nss:List (List Int))|K3 (nss:List (List Int))|LS (q:Int×List Int)|LU (c:Ct)
structure sS(H:Hp)(os:List Addr)(H':Hp)(jh:List Addr):Prop where
 own:∀a∈jh,a∈os\/H a=none
 grow:∀a,H' a=none->H a=none
 keep:∀a o,a∉os->H a=some o->H' a=some o
theorem sS.refl (H:Hp)(os:List Addr):sS H os H os:=⟨fun _ h=>.inl h,fun _ h=>h,fun _ _ _ h=>h⟩
theorem sS.same {H H':Hp}(s:aM H H')(os:List Addr):sS H os H' os:=⟨fun _ h=>.inl h,fun _ h=>s.free h,fun _ _ _ h=>s _ _ h⟩
theorem sS.trans {H H1 H2:Hp}{os Vg TX:List Addr}(a:sS H os H1 Vg)(b:sS H1 Vg H2 TX):sS H os H2 TX where
 own:=fun x h=>(b.own x h).elim (fun z=>a.own x z) fun z=>.inr (a.grow x z)
 grow:=fun x h=>a.grow x (b.grow x h)
 keep:=fun x o hn h=>b.keep x o (fun z=>(a.own x z).elim hn fun q=>by rw[h]at q;cases q) (a.keep x o hn h)
theorem sS.ext {g:Gh}{H H':Hp}{os jh:List Addr}(s:sS H os H' jh):Ext (g.P os) (g.P jh) H H':=
 ⟨fun a o p h=>⟨p.1,fun z=>(s.own a z).elim p.2 fun q=>by rw[h]at q;cases q⟩,fun a o p h=>s.keep a o p.2 h⟩
structure Ht(hd:List V->HO)(H₀ H:Hp)(a:Addr)(as:List Addr)(nss:List (List Int)):Prop where
 fr:∀b∈a::as,H₀ b=none
 nd:(a::as).Nodup
 len:as.length=nss.length
 ha:H a=some (hd (as.map V.ref))
 it:∀(k:Nat)(b:Addr)(ns:List Int),as[k]?=some b->nss[k]?=some ns->H b=some (.lst (ns.map V.int))
theorem Ht.back {hd:List V->HO}{H₀ H1 H:Hp}{a:Addr}{as:List Addr}{nss:List (List Int)}(d:Ht hd H1 H a as nss)(s:aM H₀ H1):Ht hd H₀ H a as nss:=⟨fun b hb=>s.free (d.fr b hb),d.nd,d.len,d.ha,d.it⟩
abbrev QM:=Ht HO.lst
abbrev YT:=Ht HO.tup
structure YU(H₀ H:Hp)(a b:Addr)(q:Int×List Int):Prop where
 fa:H₀ a=none
 fb:H₀ b=none
 ne:a≠b
 ha:H a=some (.tup [.int q.1,.ref b])
 hb:H b=some (.lst (q.2.map V.int))
def YV(H₀ H:Hp)(a:Addr)(c:Ct):Prop:=∃as,(∀x∈a::as,H₀ x=none)/\Dp H (a::as) a as c
def iA(K:PySem.W.Frag)(g:Gh)(H:Hp)(os:List Addr)(De:Ends):Out->Prop
 |.nx e=>∀σ' H' jh,Rel K g e σ' H' jh->sS H os H' jh->De.nx σ' H'
 |.bk e=>∀σ' H' jh,Rel K g e σ' H' jh->sS H os H' jh->De.bk σ' H'
 |.ct e=>∀σ' H' jh,Rel K g e σ' H' jh->sS H os H' jh->De.ct σ' H'
 |.rt d=>∀v H',aM g.H₀ H'->Is K (g.P []) H' d v->De.rt v H'
 |.o8 xs=>∀a vs H',aM g.H₀ H'->g.H₀ a=none->H' a=some (.lst vs)->IsL K (g.P [a]) H' xs vs->De.rt (.ref a) H'
 |.K3 nss=>∀(a:Addr)(as:List Addr)(H':Hp),aM g.H₀ H'->YT g.H₀ H' a as nss->De.rt (.ref a) H'
 |.LS q=>∀(a b:Addr)(H':Hp),aM g.H₀ H'->YU g.H₀ H' a b q->De.rt (.ref a) H'
 |.Dc nss=>∀(a:Addr)(as:List Addr)(H':Hp),aM g.H₀ H'->QM g.H₀ H' a as nss->De.rt (.ref a) H'
 |.LU c=>∀(a:Addr)(H':Hp),aM g.H₀ H'->YV g.H₀ H' a c->De.rt (.ref a) H'
theorem iA.step {K:PySem.W.Frag}{g:Gh}{H H1:Hp}{os Vg:List Addr}{De:Ends}(s:sS H os H1 Vg):∀{o:Out},iA K g H os De o->iA K g H1 Vg De o
 |.nx e,h=>fun σ' H' jh r z=>h σ' H' jh r (s.trans z)
 |.bk e,h=>fun σ' H' jh r z=>h σ' H' jh r (s.trans z)
 |.ct e,h=>fun σ' H' jh r z=>h σ' H' jh r (s.trans z)
 |.rt d,h=>h
 |.o8 xs,h=>h
 |.K3 xs,h=>h
 |.LS xs,h=>h
 |.Dc xs,h=>h
 |.LU xs,h=>h
def tS(K:PySem.W.Frag)(E:Str->Hp->Prop)(f:DE->R Out):TS:=fun De σ H=>∃g env os,Rel K g env σ H os/\Good E g.H₀ (f env) (iA K g H os De)
section
variable{X:Cx}{E:Str->Hp->Prop}{pos:Pos}
theorem imp{e:Expr}{t t':TE}(h:PE X e t)(w:∀σ H Q,t' σ H Q->t σ H Q):PE X e t':=fun pins s σ H Q I q=>h pins s σ H Q I (w σ H Q q)
theorem QN{e:Expr}{t t':TT}(h:PT X e t)(w:∀σ H Q,t' σ H Q->t σ H Q):PT X e t':=fun pins s σ H Q I q=>h pins s σ H Q I (w σ H Q q)
theorem Vh{e:Expr}{t t':TT}(h:PW X e t)(w:∀σ H Q,t' σ H Q->t σ H Q):PW X e t':=fun wh pins s σ H Q I q=>h wh pins s σ H Q I (w σ H Q q)
theorem Hu{e:List Expr}{t t':TA}(h:PA X e t)(w:∀σ H Q,t' σ H Q->t σ H Q):PA X e t':=fun pos pins s σ H Q I q=>h pos pins s σ H Q I (w σ H Q q)
theorem pV{e:Stmt}{t t':TS}(h:PS X e t)(w:∀De σ H,t' De σ H->t De σ H):PS X e t':=fun pins s σ H Q I q=>h pins s σ H Q I (w Q σ H q)
theorem NW{e:List Stmt}{t t':TS}(h:ql X e t)(w:∀De σ H,t' De σ H->t De σ H):ql X e t':=fun pins s σ H Q I q=>h pins s σ H Q I (w Q σ H q)
def bG(i:Nat)(env:DE):R D:=match env[i]? with
 |some (.val d)=>.ok d
 |_=>.bad
def dT(t:LP):D:=.tup [.int t.1,.int t.2.1,.lst (t.2.2.map .int)]
def aX(i:Nat)(env:DE):R D:=match env[i]? with
 |some (.val d)=>.ok d
 |some (.own xs)=>.ok (.lst xs)
 |some (.deep (.ls nss))=>.ok (.lst (nss.map fun ns=>.lst (ns.map .int)))
 |some (.deep (.tp nss))=>.ok (.tup (nss.map fun ns=>.lst (ns.map .int)))
 |some (.deep (.tq n ns))=>.ok (.tup [.int n,.lst (ns.map .int)])
 |some (.deep (.tr ts))=>.ok (.lst (ts.map dT))
 |_=>.bad
theorem bZ{K:PySem.W.Frag}{P:Addr->Prop}{H:Hp}:∀(ns:List Int),IsL K P H (ns.map D.int) (ns.map V.int)
 |[]=>rfl
 |n::ns=>⟨_,_,rfl,rfl,bZ ns⟩
theorem vQ{K:PySem.W.Frag}{H:Hp}{os:List Addr}:∀{as:List Addr}{nss:List (List Int)},as.length=nss.length->(∀(k:Nat)(b:Addr)(ns:List Int),as[k]?=some b->nss[k]?=some ns->b∈os/\H b=some (.lst (ns.map V.int)))->IsL K (fun _=>True) H (nss.map fun ns=>.lst (ns.map D.int)) (as.map V.ref)
 |[],[],_,_=>rfl
 |[],_::_,h,_=>by simp at h
 |_::_,[],h,_=>by simp at h
 |a::as,ns::nss,h,hi=>⟨_,_,rfl,⟨a,_,rfl,.inl ⟨trivial,.inl (hi 0 a ns rfl rfl).2⟩,bZ ns⟩,vQ (by simpa using h) fun k b ms e1 e2=>hi (k+1) b ms e1 e2⟩
theorem Ae{K:PySem.W.Frag}{P:Addr->Prop}{H:Hp}{as:List Addr}(hp:∀x∈as,P x):∀{ts:List LP}{vs:List V},vs.length=ts.length->(∀(k:Nat)(t:LP)(v:V),ts[k]?=some t->vs[k]?=some v->Vf H as t v)->IsL K P H (ts.map dT) vs
 |[],[],_,_=>rfl
 |[],_::_,h,_=>by simp at h
 |_::_,[],h,_=>by simp at h
 |t::ts,v::vs,h,hi=>by
  obtain⟨b,c,rfl,h1,h2,h3,h4⟩:=hi 0 t v rfl rfl
  exact⟨_,_,rfl,⟨b,_,rfl,.inl ⟨hp b h1,.inl h3⟩,⟨_,_,rfl,rfl,⟨_,_,rfl,rfl,⟨_,_,rfl,⟨c,_,rfl,.inl ⟨hp c h2,.inl h4⟩,bZ t.2.2⟩,rfl⟩⟩⟩⟩,Ae hp (by simpa using h) fun k t v e1 e2=>hi (k+1) t v e1 e2⟩
def gD(i:Nat)(env:DE):R (List D):=match env[i]? with
 |some (.val (.lst xs))=>.ok xs
 |some (.own xs)=>.ok xs
 |_=>.bad
theorem nD(i:Nat){x:Str}(hN:X.N[i]?=some x:=by rfl)(hv:x8 X.env.scope x:=by first|exact Or.inl rfl|exact Or.inr (Or.inl rfl)|exact Or.inr (Or.inr rfl))(hd:(x==("__debug__":Str))=false:=by decide)
  (hcd:(x==("__classdict__":Str))=false:=by decide):PE X (.Name x pos) (tD X.K E (bG i)):=imp (ji hN hv hd hcd) fun σ H Q ⟨g,env,os,r,m⟩=>by
 unfold bG at m
 cases e:env[i]? with
 |none=>rw[e]at m;exact m.elim
 |some sl=>
  cases sl with
  |no=>rw[e]at m;exact m.elim
  |raw _=>rw[e]at m;exact m.elim
  |deep _=>rw[e]at m;exact m.elim
  |own xs=>rw[e]at m;exact m.elim
  |val d=>
   rw[e]at m
   obtain⟨v,h1,h2⟩:=r.val i d e
   exact⟨v,h1,m v H (aM.refl H) h2⟩
theorem nB(i:Nat){x:Str}(hN:X.N[i]?=some x:=by rfl)(hv:x8 X.env.scope x:=by first|exact Or.inl rfl|exact Or.inr (Or.inl rfl)|exact Or.inr (Or.inr rfl))(hd:(x==("__debug__":Str))=false:=by decide)
  (hcd:(x==("__classdict__":Str))=false:=by decide):PE X (.Name x pos) (tB X.K E (aX i)):=imp (ji hN hv hd hcd) fun σ H Q ⟨g,env,os,r,m⟩=>by
 unfold aX at m
 cases e:env[i]? with
 |none=>rw[e]at m;exact m.elim
 |some sl=>
  cases sl with
  |no=>rw[e]at m;exact m.elim
  |raw _=>rw[e]at m;exact m.elim
  |own xs=>
   rw[e]at m
   obtain⟨a,vs,h1,_,h3,h4⟩:=r.own i xs e
   exact⟨.ref a,h1,m _ H (aM.refl H) ⟨a,vs,rfl,.inl ⟨trivial,.inl h3⟩,h4.weak⟩⟩
  |deep c=>
   obtain⟨A,dd⟩:=r.Hr
   obtain⟨a,as,_,h1,h3⟩:=dd.dp i c e
   cases c with
   |ls nss=>
    rw[e]at m
    exact⟨.ref a,h1,m _ H (aM.refl H) ⟨a,_,rfl,.inl ⟨trivial,.inl h3.ha⟩,vQ h3.len h3.it⟩⟩
   |tp nss=>
    rw[e]at m
    have h4:zO HO.tup H os a as nss:=h3
    exact⟨.ref a,h1,m _ H (aM.refl H) ⟨a,_,rfl,.inl ⟨trivial,.inl h4.ha⟩,vQ h4.len h4.it⟩⟩
   |dk ks=>rw[e]at m;exact m.elim
   |tq n ns=>
    rw[e]at m
    obtain⟨b,_,_,_,_,h4,h5⟩:=h3
    exact⟨.ref a,h1,m _ H (aM.refl H) ⟨a,_,rfl,.inl ⟨trivial,.inl h4⟩,⟨_,_,rfl,rfl,⟨_,_,rfl,⟨b,_,rfl,.inl ⟨trivial,.inl h5⟩,bZ ns⟩,rfl⟩⟩⟩⟩
   |tr ts=>
    rw[e]at m
    have h4:QL H os a as ts:=h3
    obtain⟨vs,q1,q2,q3⟩:=h4.at_
    exact⟨.ref a,h1,m _ H (aM.refl H) ⟨a,_,rfl,.inl ⟨trivial,.inl q1⟩,Ae (fun _ _=>trivial) q2 q3⟩⟩
  |val d=>
   rw[e]at m
   obtain⟨v,h1,h2⟩:=r.val i d e
   exact⟨v,h1,m v H (aM.refl H) h2.weak⟩
theorem nL(i:Nat){x:Str}(hN:X.N[i]?=some x:=by rfl)(hv:x8 X.env.scope x:=by first|exact Or.inl rfl|exact Or.inr (Or.inl rfl)|exact Or.inr (Or.inr rfl))(hd:(x==("__debug__":Str))=false:=by decide)
  (hcd:(x==("__classdict__":Str))=false:=by decide):PE X (.Name x pos) (tL X.K E (gD i)):=imp (ji hN hv hd hcd) fun σ H Q ⟨g,env,os,r,m⟩=>by
 unfold gD at m
 cases e:env[i]? with
 |none=>rw[e]at m;exact m.elim
 |some sl=>
  cases sl with
  |no=>rw[e]at m;exact m.elim
  |raw _=>rw[e]at m;exact m.elim
  |deep _=>rw[e]at m;exact m.elim
  |own xs=>
   rw[e]at m
   obtain⟨a,vs,h1,_,h3,h4⟩:=r.own i xs e
   exact⟨.ref a,h1,m _ _ H (aM.refl H) (cX.of h3) h4⟩
  |val d=>
   cases d with
   |lst xs=>
    rw[e]at m
    obtain⟨v,h1,a,vs,rfl,h3,h4⟩:=r.val i _ e
    exact⟨_,h1,m _ _ H (aM.refl H) h3.sq h4⟩
   |non=>rw[e]at m;exact m.elim
   |bl _=>rw[e]at m;exact m.elim
   |int _=>rw[e]at m;exact m.elim
   |str _=>rw[e]at m;exact m.elim
   |exc _=>rw[e]at m;exact m.elim
   |fn _=>rw[e]at m;exact m.elim
   |tup _=>rw[e]at m;exact m.elim
theorem cI{i j}:PE X (.Constant (.int i) j pos) (tD X.K E fun _=>.ok (.int i)):=imp gA fun σ H Q ⟨g,env,os,r,m⟩=>m _ H (aM.refl H) rfl
theorem GG{i j}:PE X (.Constant (.bool i) j pos) (tD X.K E fun _=>.ok (.bl i)):=imp UA fun σ H Q ⟨g,env,os,r,m⟩=>m _ H (aM.refl H) rfl
theorem cN{j}:PE X (.Constant .none j pos) (tD X.K E fun _=>.ok .non):=imp GY fun σ H Q ⟨g,env,os,r,m⟩=>m _ H (aM.refl H) rfl
theorem cS{i j}:PE X (.Constant (.str i) j pos) (tD X.K E fun _=>.ok (.str i)):=imp Qc fun σ H Q ⟨g,env,os,r,m⟩=>m _ H (aM.refl H) rfl
theorem PE.aC {e:Expr}{f:DE->R D}(h:PE X e (tD X.K E f)):PE X e (tB X.K E f):=imp h fun σ H Q ⟨g,env,os,r,m⟩=>⟨g,env,os,r,m.mono fun d _ q v H' s i=>q v H' s i.weak⟩
theorem PE.eU {e:Expr}{f:DE->R (List D)}(h:PE X e (tF X.K E f)):PE X e (tD X.K E fun env=>(f env).bind fun xs=>.ok (.lst xs)):=imp h fun σ H Q ⟨g,env,os,r,m⟩=>⟨g,env,os,r,m.bind.mono fun d _ q a vs H' s hn hH i=>by
 refine q _ H' s ⟨a,vs,rfl,.inl ⟨r.fresh hn,.inl hH⟩,IsL.ext ⟨fun b o p _=>⟨p.1,fun z=>p.2 (mem_cons_of_mem _ z)⟩,fun _ _ _ q=>q⟩ _ _ i⟩⟩
theorem PE.jP {e:Expr}{f:DE->R (List D)}(h:PE X e (tF X.K E f)):PE X e (tL X.K E f):=imp h fun σ H Q ⟨g,env,os,r,m⟩=>⟨g,env,os,r,m.mono fun d _ q a vs H' s hn hH i=>
 q _ vs H' s (cX.of hH) (IsL.ext ⟨fun b o p _=>⟨p.1,fun z=>p.2 (mem_cons_of_mem _ z)⟩,fun _ _ _ q=>q⟩ _ _ i)⟩
def vR:D->R (List D)
 |.lst xs=>.ok xs
 |_=>.bad
theorem PE.YW {e:Expr}{f:DE->R D}(h:PE X e (tD X.K E f)):PE X e (tL X.K E fun env=>(f env).bind vR):=imp h fun σ H Q ⟨g,env,os,r,m⟩=>⟨g,env,os,r,m.bind.mono fun d _ q v H' s i=>by
 cases d with
 |lst xs=>
  obtain⟨a,vs,rfl,h3,h4⟩:=i
  exact q a vs H' s h3.sq h4
 |non=>exact q.elim
 |bl _=>exact q.elim
 |int _=>exact q.elim
 |str _=>exact q.elim
 |exc _=>exact q.elim
 |fn _=>exact q.elim
 |tup _=>exact q.elim⟩
abbrev Tr:Addr->Prop:=fun _=>True
def lj(X:Cx)(r:R2)(k:D->D->Option D):Prop:=∀x y d,k x y=some d->∃z,toV d=some z/\∀H v w (Q:VK),Is X.K Tr H x v->Is X.K Tr H y w->Q z H->r v w H Q
theorem bj{op:Operator}{r:R2}{a b:Expr}{fa fb:DE->R D}{k:D->D->Option D}(ho:qJ X (binaryOp op) r)(hk:lj X r k)(ha:PE X a (tB X.K E fa))(hb:PE X b (tB X.K E fb)):
  PE X (.BinOp a op b pos) (tD X.K E fun env=>(fa env).bind fun x=>(fb env).bind fun y=>R.of (k x y)):=
 imp (qK ho ha hb) fun σ H Q ⟨g,env,os,r,m⟩=>⟨g,env,os,r,m.bind.mono fun x _ m1 v H1 s1 i1=>⟨g,env,os,r.same s1,m1.bind.mono fun y _ m2 w H2 s2 i2=>by
  obtain⟨d,e,q⟩:=m2.of
  obtain⟨z,hz,hk⟩:=hk x y d e
  exact hk H2 v w Q (i1.same s2) i2 (q z H2 (s1.trans s2) (Is.sc hz))⟩⟩
theorem FA{op:CmpOp}{r:R2}{a b:Expr}{fa fb:DE->R D}{k:D->D->Option D}(ho:qJ X (compareOp op) r)(hk:lj X r k)(ha:PE X a (tB X.K E fa))(hb:PE X b (tB X.K E fb))(hm:behindInMarks op b=false):
  PE X (.Compare a [op] [b] pos) (tD X.K E fun env=>(fa env).bind fun x=>(fb env).bind fun y=>R.of (k x y)):=
 imp (LA ho ha hb hm) fun σ H Q ⟨g,env,os,r,m⟩=>⟨g,env,os,r,m.bind.mono fun x _ m1 v H1 s1 i1=>⟨g,env,os,r.same s1,m1.bind.mono fun y _ m2 w H2 s2 i2=>by
  obtain⟨d,e,q⟩:=m2.of
  obtain⟨z,hz,hk⟩:=hk x y d e
  exact hk H2 v w Q (i1.same s2) i2 (q z H2 (s1.trans s2) (Is.sc hz))⟩⟩
def fH:D->R Bool
 |.bl b=>.ok b
 |_=>.bad
theorem aU{op:CmpOp}{r:R2}{a b:Expr}{fa fb:DE->R D}{k:D->D->Option D}(ho:qJ X (compareOp op) r)(hk:lj X r k)(ha:PE X a (tB X.K E fa))(hb:PE X b (tB X.K E fb))(hm:behindInMarks op b=false):
  PT X (.Compare a [op] [b] pos) (tT X.K E fun env=>(fa env).bind fun x=>(fb env).bind fun y=>(R.of (k x y)).bind fH):=
 QN (jB ho ha hb hm) fun σ H Q ⟨g,env,os,r,m⟩=>⟨g,env,os,r,m.bind.mono fun x _ m1 v H1 s1 i1=>⟨g,env,os,r.same s1,m1.bind.mono fun y _ m2 w H2 s2 i2=>by
  obtain⟨d,e,q⟩:=m2.bind.of
  obtain⟨z,hz,hk⟩:=hk x y d e
  refine hk H2 v w _ (i1.same s2) i2 ?_
  cases d with
  |bl b=>
   cases hz
   exact⟨b,rfl,q H2 (s1.trans s2)⟩
  |non=>exact q.elim
  |lst _=>exact q.elim
  |int _=>exact q.elim
  |str _=>exact q.elim
  |exc _=>exact q.elim
  |fn _=>exact q.elim
  |tup _=>exact q.elim⟩⟩
def Vi(X:Cx)(r:V->Hp->VK->Prop)(k:D->Option D):Prop:=∀x d,k x=some d->∃z,toV d=some z/\∀H v (Q:VK),Is X.K Tr H x v->Q z H->r v H Q
theorem Hv{op:UnaryOp}{r:V->Hp->VK->Prop}{a:Expr}{fa:DE->R D}{k:D->Option D}(ho:UL X (unaryOp op) r)(hk:Vi X r k)(ha:PE X a (tB X.K E fa)):
  PE X (.UnaryOp op a pos) (tD X.K E fun env=>(fa env).bind fun x=>R.of (k x)):=
 imp (C1 ho ha) fun σ H Q ⟨g,env,os,r,m⟩=>⟨g,env,os,r,m.bind.mono fun x _ m1 v H1 s1 i1=>by
  obtain⟨d,e,q⟩:=m1.of
  obtain⟨z,hz,hk⟩:=hk x d e
  exact hk H1 v Q i1 (q z H1 s1 (Is.sc hz))⟩
def jD:D->D->Option D
 |.int i,.int j=>some (.int (i-j))
 |_,_=>none
def BW:D->D->Option D
 |.int i,.int j=> @ite _ ((-(2^64)<i/\i<2^64)\/(-(2^64)<j/\j<2^64)) (propDecidable _) (some (.int (i*j))) (none)
 |_,_=>none
def vU:D->D->Option D
 |.int i,.int j=> @ite _ (0<j/\j<1073741824) (propDecidable _) (some (.int (i/j))) (none)
 |_,_=>none
def nT:D->D->Option D
 |.int i,.int j=> @ite _ (0<j) (propDecidable _) (some (.int (i%j))) (none)
 |_,_=>none
def Hw:D->D->Option D
 |.int i,.int j=> @ite _ (0<=j/\j<=1000000/\i.natAbs<2^64) (propDecidable _) (some (.int (i^j.toNat))) (none)
 |_,_=>none
def qP:D->Option D
 |.int i=>some (.int (-i))
 |_=>none
def K4:D->D->Option D
 |.int i,.int j=>some (.bl (decide (i<j)))
 |_,_=>none
def Vj:D->D->Option D
 |.int i,.int j=>some (.bl (decide (i<=j)))
 |_,_=>none
def xK:D->D->Option D
 |.int i,.int j=>some (.bl (decide (j<i)))
 |_,_=>none
def kGe:D->D->Option D
 |.int i,.int j=>some (.bl (decide (j<=i)))
 |_,_=>none
theorem nU{g:Int->Int->V}{h:Int->Int->D}{k:D->D->Option D}(hg:∀i j,toV (h i j)=some (g i j))(hk:∀x y d,k x y=some d->∃i j,x=.int i/\y=.int j/\d=h i j):lj X (C0 g) k:=fun x y d e=>by
 obtain⟨i,j,rfl,rfl,rfl⟩:=hk x y d e
 refine⟨g i j,hg i j,fun H v w Q h1 h2 q=>⟨i,j,h1,h2,q⟩⟩
theorem qQ{C:Int->Int->Prop}{g:Int->Int->V}{h:Int->Int->D}{k:D->D->Option D}(hg:∀i j,toV (h i j)=some (g i j))(hk:∀x y d,k x y=some d->∃i j,x=.int i/\y=.int j/\C i j/\d=h i j):lj X (rI C g) k:=fun x y d e=>by
 obtain⟨i,j,rfl,rfl,c,rfl⟩:=hk x y d e
 refine⟨g i j,hg i j,fun H v w Q h1 h2 q=>⟨i,j,h1,h2,c,q⟩⟩
theorem bO:lj X (C0 fun i j=>.int (i-j)) jD:=nU (h:=fun i j=>.int (i-j)) (fun _ _=>rfl) fun x y d e=>by
 unfold jD at e
 split at e<;>cases e
 exact⟨_,_,rfl,rfl,rfl⟩
theorem qp:lj X (C0 fun i j=>.bl (decide (i<j))) K4:=nU (h:=fun i j=>.bl (decide (i<j))) (fun _ _=>rfl) fun x y d e=>by
 unfold K4 at e
 split at e<;>cases e
 exact⟨_,_,rfl,rfl,rfl⟩
theorem Hz:lj X (C0 fun i j=>.bl (decide (i<=j))) Vj:=nU (h:=fun i j=>.bl (decide (i<=j))) (fun _ _=>rfl) fun x y d e=>by
 unfold Vj at e
 split at e<;>cases e
 exact⟨_,_,rfl,rfl,rfl⟩
theorem dW:lj X (C0 fun i j=>.bl (decide (j<i))) xK:=nU (h:=fun i j=>.bl (decide (j<i))) (fun _ _=>rfl) fun x y d e=>by
 unfold xK at e
 split at e<;>cases e
 exact⟨_,_,rfl,rfl,rfl⟩
theorem uY:lj X (rI Lw fun i j=>.int (i*j)) BW:=qQ (h:=fun i j=>.int (i*j)) (fun _ _=>rfl) fun x y d e=>by
 unfold BW at e
 split at e
 ·split at e
  ·rename_i i j c
   cases e
   exact⟨i,j,rfl,rfl,c,rfl⟩
  ·cases e
 ·cases e
theorem kE:lj X (rI UO fun i j=>.int (i/j)) vU:=qQ (h:=fun i j=>.int (i/j)) (fun _ _=>rfl) fun x y d e=>by
 unfold vU at e
 split at e
 ·split at e
  ·rename_i i j c
   cases e
   exact⟨i,j,rfl,rfl,c,rfl⟩
  ·cases e
 ·cases e
theorem ee:lj X (rI (fun _ j=>0<j) fun i j=>.int (i%j)) nT:=qQ (h:=fun i j=>.int (i%j)) (fun _ _=>rfl) fun x y d e=>by
 unfold nT at e
 split at e
 ·split at e
  ·rename_i i j c
   cases e
   exact⟨i,j,rfl,rfl,c,rfl⟩
  ·cases e
 ·cases e
theorem LV:lj X (rI Fi fun i j=>.int (i^j.toNat)) Hw:=qQ (h:=fun i j=>.int (i^j.toNat)) (fun _ _=>rfl) fun x y d e=>by
 unfold Hw at e
 split at e
 ·split at e
  ·rename_i i j c
   cases e
   exact⟨i,j,rfl,rfl,c,rfl⟩
  ·cases e
 ·cases e
theorem gE:Vi X (rU fun i=>.int (-i)) qP:=fun x d e=>by
 unfold qP at e
 split at e<;>cases e
 exact⟨_,rfl,fun H v Q h1 q=>⟨_,h1,q⟩⟩
theorem vV{a:Expr}{f:DE->R Bool}(h:PT X a (tT X.K E f)):PT X (.UnaryOp .Not a pos) (tT X.K E fun env=>(f env).bind fun b=>.ok (!b)):=
 QN (Qe h) fun σ H Q ⟨g,env,os,r,m⟩=>⟨g,env,os,r,m.bind.mono fun b _ q H' s=>q H' s⟩
theorem qR{a:Expr}{f:DE->R Bool}(h:PT X a (tT X.K E f)):PW X (.BoolOp .And [a] pos) (tT X.K E f):=pw_and1 h
theorem yY{a:Expr}{f:DE->R Bool}(h:PT X a (tT X.K E f)):PW X (.BoolOp .Or [a] pos) (tT X.K E f):=pw_or1 h
theorem kF{a b:Expr}{rest:List Expr}{f k:DE->R Bool}(h:PT X a (tT X.K E f))(h2:PW X (.BoolOp .And (b::rest) pos) (tT X.K E k)):PW X (.BoolOp .And (a::b::rest) pos) (tT X.K E fun env=>(f env).bind fun t=>if t=true then k env else .ok false):=
 Vh (pw_and h h2) fun σ H Q ⟨g,env,os,r,m⟩=>⟨g,env,os,r,m.bind.mono fun t _ q H' s=>by
  cases t with
  |true=>exact⟨g,env,os,r.same s,Good.mono (show Good E g.H₀ (k env) _ from q) fun b _ q2 H2 s2=>q2 H2 (s.trans s2)⟩
  |false=>exact q H' s⟩
theorem qT{a b:Expr}{rest:List Expr}{f k:DE->R Bool}(h:PT X a (tT X.K E f))(h2:PW X (.BoolOp .Or (b::rest) pos) (tT X.K E k)):PW X (.BoolOp .Or (a::b::rest) pos) (tT X.K E fun env=>(f env).bind fun t=>if t=true then .ok true else k env):=
 Vh (pw_or h h2) fun σ H Q ⟨g,env,os,r,m⟩=>⟨g,env,os,r,m.bind.mono fun t _ q H' s=>by
  cases t with
  |false=>exact⟨g,env,os,r.same s,Good.mono (show Good E g.H₀ (k env) _ from q) fun b _ q2 H2 s2=>q2 H2 (s.trans s2)⟩
  |true=>exact q H' s⟩
theorem yZ{e:Expr}{f:DE->R D}(h:PE X e (tB X.K E f))(he:∀whole,isTrue e X.env whole=(do let v<-whole;standAt e.pos;holding [v] (truthy v)):=by intro _;rfl):PT X e (tT X.K E fun env=>(f env).bind fH):=
 QN (Qd h he) fun σ H Q ⟨g,env,os,r,m⟩=>⟨g,env,os,r,m.bind.mono fun d _ q v H' s i=>by
  cases d with
  |bl b=>exact⟨b,i,q H' s⟩
  |non=>exact q.elim
  |lst _=>exact q.elim
  |int _=>exact q.elim
  |str _=>exact q.elim
  |exc _=>exact q.elim
  |fn _=>exact q.elim
  |tup _=>exact q.elim⟩
theorem YX{op}{a:Expr}{f:DE->R D}(h:PE X a (tD X.K E f)):PE X (.BoolOp op [a] pos) (tD X.K E f):=Qf h
theorem YY{a b:Expr}{rest:List Expr}{f k:DE->R D}(h:PE X a (tB X.K E f))(h2:PE X (.BoolOp .And (b::rest) pos) (tD X.K E k)):PE X (.BoolOp .And (a::b::rest) pos) (tD X.K E fun env=>(f env).bind fun x=>(fH x).bind fun t=>if t=true then k env else .ok (.bl false)):=
 imp (Qg h h2) fun σ H Q ⟨g,env,os,r,m⟩=>⟨g,env,os,r,m.bind.mono fun d _ q v H' s i=>by
  cases d with
  |bl b=>
   refine⟨b,i,?_⟩
   cases b with
   |true=>
    rw[if_pos rfl]
    exact⟨g,env,os,r.same s,Good.mono (show Good E g.H₀ (k env) _ from q) fun b _ q2 v2 H2 s2 i2=>q2 v2 H2 (s.trans s2) i2⟩
   |false=>
    rw[if_neg Bool.false_ne_true]
    exact q _ H' s rfl
  |non=>exact q.elim
  |lst _=>exact q.elim
  |int _=>exact q.elim
  |str _=>exact q.elim
  |exc _=>exact q.elim
  |fn _=>exact q.elim
  |tup _=>exact q.elim⟩
theorem YZ{c a b:Expr}{fc:DE->R Bool}{fa fb:DE->R D}(hc:PT X c (tT X.K E fc))(ha:PE X a (tD X.K E fa))(hb:PE X b (tD X.K E fb)):PE X (.IfExp c a b pos) (tD X.K E fun env=>(fc env).bind fun t=>if t=true then fa env else fb env):=
 imp (G0 hc ha hb) fun σ H Q ⟨g,env,os,r,m⟩=>⟨g,env,os,r,m.bind.mono fun t _ q H' s=>by
  cases t with
  |true=>
   rw[if_pos rfl]
   exact⟨g,env,os,r.same s,Good.mono (show Good E g.H₀ (fa env) _ from q) fun b _ q2 v2 H2 s2 i2=>q2 v2 H2 (s.trans s2) i2⟩
  |false=>
   rw[if_neg Bool.false_ne_true]
   exact⟨g,env,os,r.same s,Good.mono (show Good E g.H₀ (fb env) _ from q) fun b _ q2 v2 H2 s2 i2=>q2 v2 H2 (s.trans s2) i2⟩⟩
theorem bC:PA X [] (Hs X.K E fun _=>.ok []):=Hu aN fun σ H Q ⟨g,env,os,r,m⟩=>m [] H (aM.refl H) rfl
theorem br:PA X [] (sQ X.K E fun _=>.ok []):=Hu aN fun σ H Q ⟨g,env,os,r,m⟩=>m [] H (aM.refl H) rfl
theorem az{e:Expr}{es:List Expr}{f:DE->R D}{k:DE->R (List D)}(ha:PE X e (tD X.K E f))(hr:PA X es (Hs X.K E k))(hs:starEach (e::es) X.env=(false,eval e X.env)::starEach es X.env:=by rfl):
  PA X (e::es) (Hs X.K E fun env=>(f env).bind fun x=>(k env).bind fun xs=>.ok (x::xs)):=
 Hu (aB ha hr hs) fun σ H Q ⟨g,env,os,r,m⟩=>⟨g,env,os,r,m.bind.mono fun x _ m1 v H1 s1 i1=>⟨g,env,os,r.same s1,m1.bind.mono fun xs _ m2 vs H2 s2 i2=>m2 (v::vs) H2 (s1.trans s2) (.cons (i1.same s2) i2)⟩⟩
theorem aA{e:Expr}{es:List Expr}{f:DE->R D}{k:DE->R (List D)}(ha:PE X e (tB X.K E f))(hr:PA X es (sQ X.K E k))(hs:starEach (e::es) X.env=(false,eval e X.env)::starEach es X.env:=by rfl):
  PA X (e::es) (sQ X.K E fun env=>(f env).bind fun x=>(k env).bind fun xs=>.ok (x::xs)):=
 Hu (aB ha hr hs) fun σ H Q ⟨g,env,os,r,m⟩=>⟨g,env,os,r,m.bind.mono fun x _ m1 v H1 s1 i1=>⟨g,env,os,r.same s1,m1.bind.mono fun xs _ m2 vs H2 s2 i2=>m2 (v::vs) H2 (s1.trans s2) (.cons (i1.same s2) i2)⟩⟩
def fit{α:Type}(xs:List α):R (List α):= @ite _ (xs.length<=sizeLine) (propDecidable _) (.ok xs) (.bad)
theorem Good.fit {α:Type}{H₀:Hp}{xs:List α}{p:List α->Prop}(h:Good E H₀ (fit xs) p):xs.length<=sizeLine/\p xs:=by
 unfold DL.fit at h
 split at h
 ·rename_i c
  exact⟨c,h⟩
 ·exact h.elim
theorem FD{K:PySem.W.Frag}{g:Gh}{env:DE}{σ:St}{H H1:Hp}{os:List Addr}{ds:List D}{vs:List V}{p:Addr}(r:Rel K g env σ H os)(s1:aM H H1)(hp:H1 p=none)(i:IsL K (g.P os) H1 ds vs):
  aM H (upd H1 p (.lst vs))/\H p=none/\upd H1 p (.lst vs) p=some (.lst vs)/\IsL K (g.P (p::os)) (upd H1 p (.lst vs)) ds vs:=
 ⟨s1.trans (aO hp _),s1.free hp,ar,IsL.ext ((r.same s1).apart (aO hp _) hp) _ _ i⟩
theorem nJ{es:List Expr}{f:DE->R (List D)}(h:PA X es (Hs X.K E f)):PE X (.List es pos) (tF X.K E fun env=>(f env).bind fit):=
 imp (sL h) fun σ H Q ⟨g,env,os,r,m⟩=>⟨g,env,os,r,m.bind.mono fun ds _ m1 vs H1 s1 i1=>by
  obtain⟨z,q⟩:=m1.fit
  refine⟨by rw[i1.length];exact z,fun p hp=>?_⟩
  obtain⟨a1,a2,a3,a4⟩:=FD r s1 hp i1
  exact q p vs _ a1 a2 a3 a4⟩
theorem xM{es:List Expr}{x1}{f:DE->R (List D)}(h:PA X es (Hs X.K E f)):PE X (.Tuple es x1 pos) (tD X.K E fun env=>((f env).bind fit).bind fun ds=>.ok (.tup ds)):=
 imp (sJ h) fun σ H Q ⟨g,env,os,r,m⟩=>⟨g,env,os,r,m.bind.bind.mono fun ds _ m1 vs H1 s1 i1=>by
  obtain⟨z,q⟩:=m1.fit
  refine⟨by rw[i1.length];exact z,fun p hp=>?_⟩
  exact q _ _ (s1.trans (aO hp _)) ⟨p,vs,rfl,.inl ⟨(r.same s1).fresh hp,.inl ar⟩,i1.same (aO hp _)⟩⟩
end
section
variable{X:Cx}{E:Str->Hp->Prop}{pos:Pos}
def Vk(K:PySem.W.Frag):R2:=fun x y H Q=>∃l b xs zs,x=.ref l/\y=.ref b/\cX K H l xs/\cX K H b zs/\xs.length+zs.length<=sizeLine/\∀p,H p=none->Q (.ref p) (upd H p (.lst (xs++zs)))
theorem LW:qJ X (binaryOp .Add) (Vk X.K):=by
 intro pins s σ H x y v u Q I rx ry h
 obtain⟨l,b,xs,zs,rfl,rfl,hH,hB,hz,q⟩:=h
 cases rx
 cases ry
 obtain⟨its,r,p1,z1⟩:=I.list hH
 obtain⟨its2,r2,p2,z2⟩:=I.list hB
 have hl:=r.length
 have hl2:=r2.length
 obtain⟨o1,n1,e1,c1,d1,t1⟩:=p1
 obtain⟨o2,n2,e2,c2,d2,t2⟩:=p2
 obtain⟨oc,od,oda,GF⟩:=o1
 obtain⟨oc2,od2,Y0,Y1⟩:=o2
 have c1':oc=_:=c1
 have d1':od=_:=d1
 have t1':oda=_:=t1
 have c2':oc2=_:=c2
 have d2':od2=_:=d2
 have t2':Y0=_:=t2
 subst c1' d1' t1' c2' d2' t2'
 have ea:its.toArray++its2.toArray=(its++its2).toArray:=by simp
 refine concat_meets ⟨_,e1,rfl⟩ ⟨_,e2,rfl⟩ noFill_list_add seq_list_add PySem.F.slot_list_add PySem.F.entry_list_add (PySem.F.args_list_add_2 _ _) (list_addW l b its.toArray its2.toArray n1 n2 none none GF Y1 (by rw[size_toArray,size_toArray];omega)) ⟨e1,e2,?_⟩
 rw[ea]
 exact⟨.ref _,_,I.U6 (t':=s.toks) (r.append r2) (by rw[length_append];omega),rfl,q _ I.fresh⟩
theorem uF{a b:Expr}{fa fb:DE->R (List D)}(ha:PE X a (tL X.K E fa))(hb:PE X b (tL X.K E fb)):PE X (.BinOp a .Add b pos) (tF X.K E fun env=>(fa env).bind fun x=>(fb env).bind fun y=>fit (x++y)):=
 imp (qK LW ha hb) fun σ H Q ⟨g,env,os,r,m⟩=>⟨g,env,os,r,m.bind.mono fun x _ m1 a1 v1 H1 s1 q1 i1=>⟨g,env,os,r.same s1,m1.bind.mono fun y _ m2 a2 v2 H2 s2 q2 i2=>by
  obtain⟨z,q⟩:=m2.fit
  rw[length_append]at z
  refine⟨a1,a2,v1,v2,rfl,rfl,s2.seq q1,q2,by rw[i1.length,i2.length];exact z,fun p hp=>?_⟩
  obtain⟨b1,b2,b3,b4⟩:=FD r (s1.trans s2) hp ((i1.same s2).app i2)
  exact q p _ _ b1 b2 b3 b4⟩⟩
def tO(K:PySem.W.Frag)(E:Str->Hp->Prop)(f:DE->R (Option Int)):TO:=fun σ H Q=>∃g env os,Rel K g env σ H os/\Good E g.H₀ (f env) fun o=>∀H',aM H H'->Q o H'
theorem Vm{e:Option Expr}{t t':TO}(h:L2.PO X e t)(w:∀σ H Q,t' σ H Q->t σ H Q):L2.PO X e t':=fun pins s σ H Q I q=>h pins s σ H Q I (w σ H Q q)
theorem GH:L2.PO X none (tO X.K E fun _=>.ok none):=Vm C2 fun σ H Q ⟨g,env,os,r,m⟩=>m H (aM.refl H)
def zP:D->R (Option Int)
 |.int i=>.ok (some i)
 |_=>.bad
theorem pW{e:Expr}{f:DE->R D}(h:PE X e (tB X.K E f)):L2.PO X (some e) (tO X.K E fun env=>(f env).bind zP):=Vm (C3 h) fun σ H Q ⟨g,env,os,r,m⟩=>⟨g,env,os,r,m.bind.mono fun d _ q v H' s i=>by
 cases d with
 |int k=>exact⟨k,i,q H' s⟩
 |non=>exact q.elim
 |bl _=>exact q.elim
 |lst _=>exact q.elim
 |str _=>exact q.elim
 |exc _=>exact q.elim
 |fn _=>exact q.elim
 |tup _=>exact q.elim⟩
def cut{α:Type}(xs:List α)(lo hi:Option Int):List α:=(xs.drop (HT.vM xs.length 0 lo)).take (HT.vM xs.length xs.length hi-HT.vM xs.length 0 lo)
theorem IsL.cut {K:PySem.W.Frag}{P:Addr->Prop}{H:Hp}{ds:List D}{vs:List V}(h:IsL K P H ds vs)(lo hi:Option Int):IsL K P H (DL.cut ds lo hi) (xF vs lo hi):=by
 unfold DL.cut xF
 rw[h.length]
 exact(h.drop _).take _
theorem gF{e:Expr}{lo hi:Option Expr}{f:DE->R (List D)}{fl fh:DE->R (Option Int)}{p2:Pos}(he:PE X e (tL X.K E f))(hl:L2.PO X lo (tO X.K E fl))(hh:L2.PO X hi (tO X.K E fh)):
  PE X (.Subscript e (.Slice lo hi none p2) pos) (tF X.K E fun env=>(f env).bind fun x=>(fl env).bind fun l=>(fh env).bind fun h=>.ok (cut x l h)):=
 imp (z5 C5 he hl hh) fun σ H Q ⟨g,env,os,r,m⟩=>⟨g,env,os,r,m.bind.mono fun x _ m1 a1 v1 H1 s1 q1 i1=>⟨g,env,os,r.same s1,m1.bind.mono fun l _ m2 H2 s2=>⟨g,env,os,r.same (s1.trans s2),m2.bind.mono fun h _ m3 H3 s3=>by
  refine⟨a1,v1,rfl,s3.seq (s2.seq q1),fun p hp=>?_⟩
  obtain⟨b1,b2,b3,b4⟩:=FD r (s1.trans (s2.trans s3)) hp (((i1.same s2).same s3).cut l h)
  exact m3 p _ _ b1 b2 b3 b4⟩⟩⟩
theorem IsL.ig {K:PySem.W.Frag}{P:Addr->Prop}{H:Hp}{ds:List D}{vs:List V}{i:Int}{d:D}(h:IsL K P H ds vs)(e:L2.ig ds i=some d):∃v,L2.ig vs i=some v/\Is K P H d v:=by
 unfold L2.ig at e⊢
 rw[h.length]
 cases q:qH ds.length i with
 |none=>rw[q]at e;cases e
 |some j=>
  rw[q]at e
  exact h.get e
def sU:D->D->R D
 |.lst xs,.int i=>R.of (ig xs i)
 |.tup xs,.int i=>R.of (ig xs i)
 |_,_=>.bad
theorem vW{a b:Expr}{fa fb:DE->R D}(ha:PE X a (tD X.K E fa))(hb:PE X b (tB X.K E fb))(hs:uW b:=by exact fun _ _=>rfl):PE X (.Subscript a b pos) (tD X.K E fun env=>(fa env).bind fun x=>(fb env).bind fun y=>sU x y):=
 imp (ik QA ha hb hs) fun σ H Q ⟨g,env,os,r,m⟩=>⟨g,env,os,r,m.bind.mono fun x _ m1 v H1 s1 i1=>⟨g,env,os,r.same s1,m1.bind.mono fun y _ m2 w H2 s2 i2=>by
  unfold sU at m2
  split at m2
  ·rename_i xs i _ _
   obtain⟨d,e,q⟩:=m2.of
   have TY:=i1.same s2
   obtain⟨a,vs,rfl,h1,h2⟩:=TY
   obtain⟨z,e2,h3⟩:=IsL.ig h2 e
   exact .inl ⟨a,vs,i,z,rfl,i2,h1.sq,e2,q z H2 (s1.trans s2) h3⟩
  ·rename_i xs i _ _
   obtain⟨d,e,q⟩:=m2.of
   have TY:=i1.same s2
   obtain⟨a,vs,rfl,h1,h2⟩:=TY
   obtain⟨z,e2,h3⟩:=IsL.ig h2 e
   exact .inr (.inl ⟨a,vs,i,z,rfl,i2,h1.sq,e2,q z H2 (s1.trans s2) h3⟩)
  ·exact m2.elim⟩⟩
def p8(xs:List D):D->R D
 |.int i=>R.of (ig xs i)
 |_=>.bad
theorem qU{a b:Expr}{fa:DE->R (List D)}{fb:DE->R D}(ha:PE X a (tL X.K E fa))(hb:PE X b (tB X.K E fb))(hs:uW b:=by exact fun _ _=>rfl):PE X (.Subscript a b pos) (tD X.K E fun env=>(fa env).bind fun x=>(fb env).bind fun y=>p8 x y):=
 imp (ik dG ha hb hs) fun σ H Q ⟨g,env,os,r,m⟩=>⟨g,env,os,r,m.bind.mono fun x _ m1 a1 v1 H1 s1 q1 i1=>⟨g,env,os,r.same s1,m1.bind.mono fun y _ m2 w H2 s2 i2=>by
  unfold p8 at m2
  split at m2
  ·rename_i i _
   obtain⟨d,e,q⟩:=m2.of
   obtain⟨z,e2,h3⟩:=(i1.same s2).ig e
   exact⟨a1,v1,i,z,rfl,i2,s2.seq q1,e2,q z H2 (s1.trans s2) h3⟩
  ·exact m2.elim⟩⟩
def LX(X:Cx)(r:List V->Hp->VK->Prop)(k:List D->Option D):Prop:=∀ds d,k ds=some d->∃z,toV d=some z/\∀H vs (Q:VK),IsL X.K Tr H ds vs->Q z H->r vs H Q
theorem fE{id:String}{x:Str}{p:Pos}{e:Expr}{es:List Expr}{f:DE->R (List D)}{r:List V->Hp->VK->Prop}{k:List D->Option D}(hc:p6 X (.builtin id) r)(hk:LX X r k)(hm:X.mg x=none)(hv:bootBuiltins x=some (.builtin id))(ha:PA X (e::es) (sQ X.K E f))
  (hg:Gl X x:=by rfl)(hn:x≠"__name__":=by decide)(hdb:(x==("__debug__":Str))=false:=by decide)
  (he:starEach (e::es) X.env=(false,eval e X.env)::starEach es X.env:=by rfl)(hpl:(backTo pos (starEach es X.env)).any (·.1)=false:=by rfl):PE X (.Call (.Name x p) (e::es) [] pos) (tD X.K E fun env=>(f env).bind fun ds=>R.of (k ds)):=
 imp (i7 hc hg hm hv ha hn hdb he hpl) fun σ H Q ⟨g,env,os,r,m⟩=>⟨g,env,os,r,m.bind.mono fun ds _ m1 vs H1 s1 i1=>by
  obtain⟨d,e,q⟩:=m1.of
  obtain⟨z,hz,hk⟩:=hk ds d e
  exact hk H1 vs Q i1 (q z H1 s1 (Is.sc hz))⟩
theorem IsL.y0 {K:PySem.W.Frag}{P:Addr->Prop}{H:Hp}{d:D}{vs:List V}(h:IsL K P H [d] vs):∃v,vs=[v]/\Is K P H d v:=by
 obtain⟨v,r,rfl,p,q⟩:=h
 have q':r=[]:=q
 subst q'
 exact⟨v,rfl,p⟩
theorem IsL.QO {K:PySem.W.Frag}{P:Addr->Prop}{H:Hp}{d d2:D}{vs:List V}(h:IsL K P H [d,d2] vs):∃v w,vs=[v,w]/\Is K P H d v/\Is K P H d2 w:=by
 obtain⟨v,r,rfl,p,q⟩:=h
 obtain⟨w,rfl,p2⟩:=IsL.y0 q
 exact⟨v,w,rfl,p,p2⟩
def my:List D->Option D
 |[.lst xs]=>some (.int xs.length)
 |[.tup xs]=>some (.int xs.length)
 |[.str x]=> @ite _ (x.length<=sizeLine) (propDecidable _) (some (.int x.length)) (none)
 |_=>none
theorem dH:LX X (fun xs H Q=>∃x n,xs=[x]/\UR X.K x H n/\Q (.int n) H) my:=fun ds d e=>by
 unfold my at e
 split at e
 ·rename_i xs
  cases e
  refine⟨_,rfl,fun H vs Q i q=>?_⟩
  obtain⟨v,rfl,a,ws,rfl,h1,h2⟩:=IsL.y0 i
  exact⟨_,_,rfl,.inl ⟨ws,h1.sq,(IsL.length h2).symm⟩,q⟩
 ·rename_i xs
  cases e
  refine⟨_,rfl,fun H vs Q i q=>?_⟩
  obtain⟨v,rfl,a,ws,rfl,h1,h2⟩:=IsL.y0 i
  exact⟨_,_,rfl,.inr ⟨ws,h1.sq,(IsL.length h2).symm⟩,q⟩
 ·split at e
  ·rename_i x c
   cases e
   refine⟨_,rfl,fun H vs Q i q=>?_⟩
   obtain⟨v,rfl,i2⟩:=IsL.y0 i
   have i':v=.str x:=i2
   subst i'
   exact⟨_,_,rfl,⟨c,rfl⟩,q⟩
  ·cases e
 ·cases e
def y4:List D->Option D
 |[.int i]=>some (.int (if i<0 then-i else i))
 |_=>none
theorem o9:LX X (fun xs H Q=>∃i,xs=[.int i]/\Q (.int (if i<0 then-i else i)) H) y4:=fun ds d e=>by
 unfold y4 at e
 split at e
 ·rename_i i
  cases e
  refine⟨_,rfl,fun H vs Q h q=>?_⟩
  obtain⟨v,rfl,h1⟩:=IsL.y0 h
  have h':v=.int i:=h1
  subst h'
  exact⟨i,rfl,q⟩
 ·cases e
def Dg:List D->Option D
 |[.int i,.int j]=>some (.int (if j>i then j else i))
 |_=>none
theorem HA:LX X (fun xs H Q=>∃i j,xs=[.int i,.int j]/\Q (.int (if j>i then j else i)) H) Dg:=fun ds d e=>by
 unfold Dg at e
 split at e
 ·rename_i i j
  cases e
  refine⟨_,rfl,fun H vs Q h q=>?_⟩
  obtain⟨v,w,rfl,h1,h2⟩:=IsL.QO h
  have h':v=.int i:=h1
  have Y2:w=.int j:=h2
  subst h' Y2
  exact⟨i,j,rfl,q⟩
 ·cases e
theorem Af{p:Pos}{a:Expr}{f:DE->R (List D)}(hm:X.mg "list"=none)(ha:PE X a (tL X.K E f))(hg:Gl X "list":=by rfl)
  (he:starEach [a] X.env=(false,eval a X.env)::starEach [] X.env:=by rfl)(hpl:(backTo pos (starEach [] X.env)).any (·.1)=false:=by rfl):PE X (.Call (.Name "list" p) [a] [] pos) (tF X.K E f):=
 imp (o7 mw hg hm (by decide +kernel) (aB ha aN he) (by decide) (by decide) he hpl) fun σ H Q ⟨g,env,os,r,m⟩=>⟨g,env,os,r,m.mono fun x _ m1 a1 v1 H1 s1 q1 i1=>
  ⟨a1,v1,rfl,.inl q1,fun p hp=>by
   obtain⟨b1,b2,b3,b4⟩:=FD r s1 hp i1
   exact m1 p _ _ b1 b2 b3 b4⟩⟩
def Dh(K:PySem.W.Frag)(xc:Str->Value)(m:List D->R D):Sp:=fun vs H Q E=>∃P ds,IsL K P H ds vs/\(match m ds with
 |.ok d=>∀v H',aM H H'->Is K (fun a=>P a\/H a=none) H' d v->Q v H'
 |.err c=>∀H',aM H H'->E (xc c) none H'
 |.bad=>False)
def K5(K:PySem.W.Frag)(xc:Str->Value)(m:List D->R (List D)):Sp:=fun vs H Q E=>∃P ds,IsL K P H ds vs/\(match m ds with
 |.ok xs=>∀a ws H',aM H H'->H a=none->H' a=some (.lst ws)->IsL K (fun b=>(P b\/H b=none)/\b≠a) H' xs ws->Q (.ref a) H'
 |.err c=>∀H',aM H H'->E (xc c) none H'
 |.bad=>False)
def EX(xc:Str->Value)(E:Str->Hp->Prop):XK:=fun c _ H'=>∃n,c=xc n/\E n H'
theorem kG{E:XK}:Passes kC X E:=fun _ _ _ _ _ _ _ h=>h.elim
variable{CX:GD}{k:Nat}{fa:Addr}{fd:FuncData}{ps:List Str}{xc:Str->Value}{x:Str}{p:Pos}{e:Expr}{es:List Expr}{f:DE->R (List D)}
theorem fD{m:List D->R D}(F:cu X.prog X.w X.K X.mg X.base CX k fa fd ps (Dh X.K xc m))(hm:X.mg x=some (.ref fa))(hk:keepIn X.K (.ref fa)=true)(hb:Binds X.K fd ps [])(hr:aZ k X.A)(hx:Passes CX X (EX xc E))
  (ha:PA X (e::es) (Hs X.K E f))(hg:Gl X x:=by rfl)(hdb:(x==("__debug__":Str))=false:=by decide)(he:starEach (e::es) X.env=(false,eval e X.env)::starEach es X.env:=by rfl)(hpl:(backTo pos (starEach es X.env)).any (·.1)=false:=by rfl):
  PE X (.Call (.Name x p) (e::es) [] pos) (tD X.K E fun env=>(f env).bind m):=
 imp (dZ F hr hg hm hk hb .nil hx ha hdb he hpl) fun σ H Q ⟨g,env,os,r,q⟩=>⟨g,env,os,r,q.bind.mono fun ds _ q1 vs H1 s1 i1=>by
  show Dh X.K xc m (vs++[]) H1 Q _
  rw[append_nil]
  refine⟨g.P os,ds,i1,?_⟩
  cases em:m ds with
  |ok d=>
   rw[em]at q1
   intro v H' s' i'
   exact q1 v H' (s1.trans s') (Is.ext ⟨fun a o pa _=>pa.elim (fun z=>z) fun z=>(r.same s1).fresh z,fun _ _ _ z=>z⟩ _ _ i')
  |err c=>
   rw[em]at q1
   intro H' s'
   exact⟨c,rfl,q1 H' (r.ext.trans (s1.trans s'))⟩
  |bad=>rw[em]at q1;exact q1⟩
theorem fB{m:List D->R D}(F:cu X.prog X.w X.K X.mg X.base CX k fa fd ps (Dh X.K xc m))(hsc:∀ds d,m ds=.ok d->∃z,toV d=some z)(hm:X.mg x=some (.ref fa))(hk:keepIn X.K (.ref fa)=true)(hb:Binds X.K fd ps [])(hr:aZ k X.A)(hx:Passes CX X (EX xc E))
  (ha:PA X (e::es) (sQ X.K E f))(hg:Gl X x:=by rfl)(hdb:(x==("__debug__":Str))=false:=by decide)(he:starEach (e::es) X.env=(false,eval e X.env)::starEach es X.env:=by rfl)(hpl:(backTo pos (starEach es X.env)).any (·.1)=false:=by rfl):
  PE X (.Call (.Name x p) (e::es) [] pos) (tD X.K E fun env=>(f env).bind m):=
 imp (dZ F hr hg hm hk hb .nil hx ha hdb he hpl) fun σ H Q ⟨g,env,os,r,q⟩=>⟨g,env,os,r,q.bind.mono fun ds _ q1 vs H1 s1 i1=>by
  show Dh X.K xc m (vs++[]) H1 Q _
  rw[append_nil]
  refine⟨Tr,ds,i1,?_⟩
  cases em:m ds with
  |ok d=>
   rw[em]at q1
   intro v H' s' i'
   obtain⟨z,hz⟩:=hsc ds d em
   have e2:=Is.NV hz i'
   subst e2
   exact q1 _ H' (s1.trans s') (Is.sc hz)
  |err c=>
   rw[em]at q1
   intro H' s'
   exact⟨c,rfl,q1 H' (r.ext.trans (s1.trans s'))⟩
  |bad=>rw[em]at q1;exact q1⟩
theorem fF{m:List D->R (List D)}(F:cu X.prog X.w X.K X.mg X.base CX k fa fd ps (K5 X.K xc m))(hm:X.mg x=some (.ref fa))(hk:keepIn X.K (.ref fa)=true)(hb:Binds X.K fd ps [])(hr:aZ k X.A)(hx:Passes CX X (EX xc E))
  (ha:PA X (e::es) (Hs X.K E f))(hg:Gl X x:=by rfl)(hdb:(x==("__debug__":Str))=false:=by decide)(he:starEach (e::es) X.env=(false,eval e X.env)::starEach es X.env:=by rfl)(hpl:(backTo pos (starEach es X.env)).any (·.1)=false:=by rfl):
  PE X (.Call (.Name x p) (e::es) [] pos) (tF X.K E fun env=>(f env).bind m):=
 imp (dZ F hr hg hm hk hb .nil hx ha hdb he hpl) fun σ H Q ⟨g,env,os,r,q⟩=>⟨g,env,os,r,q.bind.mono fun ds _ q1 vs H1 s1 i1=>by
  show K5 X.K xc m (vs++[]) H1 Q _
  rw[append_nil]
  refine⟨g.P os,ds,i1,?_⟩
  cases em:m ds with
  |ok d=>
   rw[em]at q1
   intro a ws H' s' hn hH i'
   exact q1 a ws H' (s1.trans s') (s1.free hn) hH (IsL.ext ⟨fun b o pb _=>by
    have z:g.P os b:=pb.1.elim (fun z=>z) fun z=>(r.same s1).fresh z
    exact⟨z.1,fun hm=>(mem_cons.mp hm).elim pb.2 z.2⟩,fun _ _ _ z=>z⟩ _ _ i')
  |err c=>
   rw[em]at q1
   intro H' s'
   exact⟨c,rfl,q1 H' (r.ext.trans (s1.trans s'))⟩
  |bad=>rw[em]at q1;exact q1⟩
theorem scs{K:PySem.W.Frag}{P P':Addr->Prop}{H:Hp}:∀{ds:List D}{vs:List V},(∀d∈ds,∃z,toV d=some z)->IsL K P H ds vs->IsL K P' H ds vs
 |[],_,_,h=>h
 |d::ds,_,hs,⟨v,r,e,p,q⟩=>by
  obtain⟨z,hz⟩:=hs d (by simp)
  have e2:=Is.NV hz p
  exact⟨v,r,e,by rw[e2];exact Is.sc hz,scs (fun d hd=>hs d (by simp[hd])) q⟩
theorem fFB{m:List D->R (List D)}(F:cu X.prog X.w X.K X.mg X.base CX k fa fd ps (K5 X.K xc m))(hsc:∀ds xs,m ds=.ok xs->∀d∈xs,∃z,toV d=some z)(hm:X.mg x=some (.ref fa))(hk:keepIn X.K (.ref fa)=true)(hb:Binds X.K fd ps [])(hr:aZ k X.A)(hx:Passes CX X (EX xc E))
  (ha:PA X (e::es) (sQ X.K E f))(hg:Gl X x:=by rfl)(hdb:(x==("__debug__":Str))=false:=by decide)(he:starEach (e::es) X.env=(false,eval e X.env)::starEach es X.env:=by rfl)(hpl:(backTo pos (starEach es X.env)).any (·.1)=false:=by rfl):
  PE X (.Call (.Name x p) (e::es) [] pos) (tF X.K E fun env=>(f env).bind m):=
 imp (dZ F hr hg hm hk hb .nil hx ha hdb he hpl) fun σ H Q ⟨g,env,os,r,q⟩=>⟨g,env,os,r,q.bind.mono fun ds _ q1 vs H1 s1 i1=>by
  show K5 X.K xc m (vs++[]) H1 Q _
  rw[append_nil]
  refine⟨Tr,ds,i1,?_⟩
  cases em:m ds with
  |ok d=>
   rw[em]at q1
   intro a ws H' s' hn hH i'
   exact q1 a ws H' (s1.trans s') (s1.free hn) hH (scs (hsc ds d em) i')
  |err c=>
   rw[em]at q1
   intro H' s'
   exact⟨c,rfl,q1 H' (r.ext.trans (s1.trans s'))⟩
  |bad=>rw[em]at q1;exact q1⟩
end
def aV(r:R Out)(k:DE->R Out):R Out:=r.bind fun o=>match o with
 |.nx e=>k e
 |o=>.ok o
def gG(b:D->DE->R Out):List D->DE->R Out
 |[],e=>.ok (.nx e)
 |x::xs,e=>(b x e).bind fun o=>match o with
  |.nx e'=>gG b xs e'
  |.ct e'=>gG b xs e'
  |.bk e'=>.ok (.nx e')
  |.rt d=>.ok (.rt d)
  |.o8 ys=>.ok (.o8 ys)
  |.LU ys=>.ok (.LU ys)
  |.K3 ys=>.ok (.K3 ys)
  |.LS ys=>.ok (.LS ys)
  |.Dc ys=>.ok (.Dc ys)
section
variable{X:Cx}{E:Str->Hp->Prop}{pos:Pos}
theorem iG:ql X [] (tS X.K E fun e=>.ok (.nx e)):=NW ky fun De σ H ⟨g,env,os,r,m⟩=>m σ H os r (.refl H os)
theorem aL{st:Stmt}{rest:List Stmt}{f k:DE->R Out}(h1:PS X st (tS X.K E f))(h2:ql X rest (tS X.K E k)):ql X (st::rest) (tS X.K E fun e=>aV (f e) k):=
 NW (aF h1 h2) fun De σ H ⟨g,env,os,r,m⟩=>⟨g,env,os,r,(show Good E g.H₀ ((f env).bind _) _ from m).bind.mono fun o _ q=>by
  cases o with
  |nx e'=>exact fun σ' H' jh r' z=>⟨g,e',jh,r',Good.mono (show Good E g.H₀ (k e') _ from q) fun o _ q=>iA.step z q⟩
  |bk e'=>exact q
  |ct e'=>exact q
  |rt d=>exact q
  |o8 xs=>exact q
  |LU xs=>exact q
  |K3 xs=>exact q
  |LS xs=>exact q
  |Dc xs=>exact q⟩
theorem aY{st:Stmt}{f:DE->R Out}(h1:PS X st (tS X.K E f)):ql X [st] (tS X.K E f):=bU h1
theorem Vn{g:Gh}{os:List Addr}{K:PySem.W.Frag}{H:Hp}{d:D}{v:V}(h:Is K (g.P os) H d v):Is K (g.P []) H d v:=Is.ext ⟨fun _ _ p _=>⟨p.1,by simp⟩,fun _ _ _ q=>q⟩ _ _ h
theorem eY{e:Expr}{f:DE->R D}(he:PE X e (tD X.K E f)):PS X (.Return (some e) pos) (tS X.K E fun env=>(f env).bind fun d=>.ok (.rt d)):=
 pV (lg he) fun De σ H ⟨g,env,os,r,m⟩=>⟨g,env,os,r,m.bind.mono fun d _ q v H' s i=>q v H' (r.ext.trans s) (Vn i)⟩
theorem jw{e:Expr}{f:DE->R (List D)}(he:PE X e (tF X.K E f)):PS X (.Return (some e) pos) (tS X.K E fun env=>(f env).bind fun d=>.ok (.o8 d)):=
 pV (lg he) fun De σ H ⟨g,env,os,r,m⟩=>⟨g,env,os,r,m.bind.mono fun xs _ q a vs H' s hn hH i=>
  q a vs H' (r.ext.trans s) (r.ext.free hn) hH (IsL.ext ⟨fun b o p _=>⟨p.1,fun z=>p.2 (by simp at z;simp[z])⟩,fun _ _ _ q=>q⟩ _ _ i)⟩
def ownAt(i:Nat)(env:DE):R (List D):=match env[i]? with
 |some (.own xs)=>.ok xs
 |_=>.bad
theorem Good.own {H₀:Hp}{i:Nat}{env:DE}{p:List D->Prop}(h:Good E H₀ (ownAt i env) p):∃xs,env[i]?=some (.own xs)/\p xs:=by
 unfold ownAt at h
 split at h
 ·rename_i xs e
  exact⟨xs,e,h⟩
 ·exact h.elim
theorem HB(i:Nat){x:Str}{p:Pos}(hN:X.N[i]?=some x:=by rfl)(hv:x8 X.env.scope x:=by first|exact Or.inl rfl|exact Or.inr (Or.inl rfl)|exact Or.inr (Or.inr rfl))(hd:(x==("__debug__":Str))=false:=by decide)
  (hcd:(x==("__classdict__":Str))=false:=by decide):PS X (.Return (some (.Name x p)) pos) (tS X.K E fun env=>(ownAt i env).bind fun xs=>.ok (.o8 xs)):=
 pV (lg (ji hN hv hd hcd)) fun De σ H ⟨g,env,os,r,m⟩=>by
  obtain⟨xs,e,q⟩:=m.bind.own
  obtain⟨a,vs,h1,h2,h3,h4⟩:=r.own i xs e
  exact⟨.ref a,h1,q a vs H r.ext (r.new a h2).1 h3 (IsL.ext ⟨fun b o p _=>⟨p.1,fun z=>p.2 (by simp at z;rw[z];exact h2)⟩,fun _ _ _ q=>q⟩ _ _ h4)⟩
theorem sC{c:Expr}{a b:List Stmt}{fc:DE->R Bool}{fa fb:DE->R Out}(hc:PT X c (tT X.K E fc))(ha:ql X a (tS X.K E fa))(hb:ql X b (tS X.K E fb)):PS X (.If c a b pos) (tS X.K E fun env=>(fc env).bind fun t=>if t=true then fa env else fb env):=
 pV (ud hc ha hb) fun De σ H ⟨g,env,os,r,m⟩=>⟨g,env,os,r,m.bind.mono fun t _ q H' s=>by
  cases t with
  |true=>
   rw[if_pos rfl]
   exact⟨g,env,os,r.same s,Good.mono (show Good E g.H₀ (fa env) _ from q) fun o _ q2=>iA.step (.same s os) q2⟩
  |false=>
   rw[if_neg Bool.false_ne_true]
   exact⟨g,env,os,r.same s,Good.mono (show Good E g.H₀ (fb env) _ from q) fun o _ q2=>iA.step (.same s os) q2⟩⟩
theorem gH(i:Nat){x:Str}{e:Expr}{f:DE->R D}{pos':Pos}(he:PE X e (tD X.K E f))(hN:X.N.Nodup)(hi:X.N[i]?=some x:=by rfl)(hx:Loc X.env.scope x:=by first|exact Or.inl rfl|exact Or.inr rfl)(hs:swapsWith e (some (.Name x pos')) pos.line X.env=pure false:=by rfl)
  (hf:X.fn x=true\/X.env.scope.names.lookup x=some .local:=by first|exact .inl rfl|exact .inr rfl|assumption):PS X (.Assign [.Name x pos'] e pos) (tS X.K E fun env=>(f env).bind fun d=>.ok (.nx (env.set i (.val d)))):=
 pV (dq hN hi hx he hs hf) fun De σ H ⟨g,env,os,r,m⟩=>⟨g,env,os,r,m.bind.mono fun d _ q v H' s h=>q _ H' os ((r.same s).set i h) (.same s os)⟩
theorem sS.new {H H':Hp}{os:List Addr}{a:Addr}(s:aM H H')(hn:H a=none):sS H os H' (a::os):=
 ⟨fun b hb=>(mem_cons.mp hb).elim (fun z=>.inr (by rw[z];exact hn)) .inl,fun _ h=>s.free h,fun _ _ _ h=>s _ _ h⟩
theorem yh(i:Nat){x:Str}{e:Expr}{f:DE->R (List D)}{pos':Pos}(he:PE X e (tF X.K E f))(hN:X.N.Nodup)(hi:X.N[i]?=some x:=by rfl)(hx:Loc X.env.scope x:=by first|exact Or.inl rfl|exact Or.inr rfl)(hs:swapsWith e (some (.Name x pos')) pos.line X.env=pure false:=by rfl)
  (hf:X.fn x=true\/X.env.scope.names.lookup x=some .local:=by first|exact .inl rfl|exact .inr rfl|assumption):PS X (.Assign [.Name x pos'] e pos) (tS X.K E fun env=>(f env).bind fun d=>.ok (.nx (env.set i (.own d)))):=
 pV (dq hN hi hx he hs hf) fun De σ H ⟨g,env,os,r,m⟩=>⟨g,env,os,r,m.bind.mono fun d _ q a vs H' s hn hH h=>q _ H' (a::os) (r.YR s i hn hH h) (.new s hn)⟩
theorem sS.mut {H:Hp}{os:List Addr}{a:Addr}{o:HO}(ha:a∈os):sS H os (upd H a o) os:=
 ⟨fun b hb=>.inl hb,fun b h=>by
  by_cases z:b=a
  ·subst z;rw[ar]at h;cases h
  ·rw[ai z]at h;exact h,fun b u hb h=>by rw[ai (fun z=>hb (by rw[z];exact ha))];exact h⟩
def xB(i:Nat)(env:DE):DE:=match env[i]? with
 |some (.own xs)=>env.set i (.val (.lst xs))
 |_=>env
theorem Y3(i:Nat){x:Str}{e:Expr}{f:DE->R D}{p apos bA:Pos}(he:PE X e (tD X.K E f))(hN:X.N[i]?=some x:=by rfl)(hv:x8 X.env.scope x:=by first|exact Or.inl rfl|exact Or.inr (Or.inl rfl)|exact Or.inr (Or.inr rfl))(hd:(x==("__debug__":Str))=false:=by decide)
  (hcd:(x==("__classdict__":Str))=false:=by decide)
  (hbase:attributeBase (.Name x p) "append" X.env (eval (.Name x p) X.env)=eval (.Name x p) X.env:=by rfl)
  (hfew:((backTo bA (starEach [e] X.env)).all (fun x=> !x.1)&&(backToKw bA (keywordEach [] X.env)).all (fun x=>x.1.isSome)
   &&decide ([e].length+([]:List Keyword).length+(if([]:List Keyword).isEmpty then 0 else 1)<30))=true:=by rfl)
  (hline:(apos.endLine==bA.line)=true:=by rfl)(hst:starEach [e] X.env=(false,eval e X.env)::starEach [] X.env:=by rfl)(hplain:(backTo bA (starEach [] X.env)).any (·.1)=false:=by rfl)
  (hs:swapsWith (.Call (.Attribute (.Name x p) "append" apos) [e] [] bA) none pos.line X.env=pure false:=by rfl):
  PS X (.Expr (.Call (.Attribute (.Name x p) "append" apos) [e] [] bA) pos) (tS X.K E fun env=>(ownAt i env).bind fun xs=>(f env).bind fun d=> @ite _ (xs.length<sizeLine) (propDecidable _) (.ok (.nx (env.set i (.own (xs++[d]))))) (.bad)):=
 pV (gB (ug plainAttrs_list PySem.F.slot_list_append PySem.F.type_list_append fy (ji hN hv hd hcd) (aB he aN hst) hbase hfew hline hst hplain) hs) fun De σ H ⟨g,env,os,r,m⟩=>by
  obtain⟨xs,e,m1⟩:=m.bind.own
  obtain⟨a,vs,h1,h2,h3,h4⟩:=r.own i xs e
  refine⟨.ref a,h1,.inl ⟨rfl,vs,cX.of h3⟩,g,env,os,r,m1.bind.mono fun d _ q v H' s hi=>?_⟩
  split at q
  ·rename_i c
   refine⟨a,vs,v,rfl,rfl,s _ _ h3,by rw[h4.length];exact c,?_⟩
   exact q σ _ os ((r.same s).mut e h1 h2 ((h4.same s).app (.one hi))) ((sS.same s os).trans (.mut h2))
  ·exact q.elim
theorem Y4(i:Nat){x:Str}{p apos bA:Pos}(hN:X.N[i]?=some x:=by rfl)(hv:x8 X.env.scope x:=by first|exact Or.inl rfl|exact Or.inr (Or.inl rfl)|exact Or.inr (Or.inr rfl))(hd:(x==("__debug__":Str))=false:=by decide)
  (hcd:(x==("__classdict__":Str))=false:=by decide)
  (hbase:attributeBase (.Name x p) "pop" X.env (eval (.Name x p) X.env)=eval (.Name x p) X.env:=by rfl)(hline:(apos.endLine==bA.line)=true:=by rfl)
  (hs:swapsWith (.Call (.Attribute (.Name x p) "pop" apos) [] [] bA) none pos.line X.env=pure false:=by rfl):
  PS X (.Expr (.Call (.Attribute (.Name x p) "pop" apos) [] [] bA) pos) (tS X.K E fun env=>(ownAt i env).bind fun xs=>if 0<xs.length then .ok (.nx (env.set i (.own xs.dropLast)))else .bad):=
 pV (gB (yW plainAttrs_list slot_list_pop type_list_pop Hl (ji hN hv hd hcd) hbase hline) hs) fun De σ H ⟨g,env,os,r,m⟩=>by
  obtain⟨xs,e,m1⟩:=m.bind.own
  obtain⟨a,vs,h1,h2,h3,h4⟩:=r.own i xs e
  split at m1
  ·rename_i c
   have hl:=h4.length
   refine⟨.ref a,h1,.inl ⟨rfl,vs,cX.of h3⟩,a,vs,vs[vs.length-1],rfl,rfl,h3,by rw[getElem?_eq_getElem (by omega)],?_⟩
   refine m1 σ _ os (r.mut e h1 h2 ?_) (.mut h2)
   rw[dropLast_eq_take,dropLast_eq_take,hl]
   exact h4.take _
  ·exact m1.elim
theorem QP(i:Nat){x:Str}{ek e:Expr}{fk f:DE->R D}{p tp:Pos}(hk:PE X ek (tB X.K E fk))(he:PE X e (tD X.K E f))(hN:X.N[i]?=some x:=by rfl)(hv:x8 X.env.scope x:=by first|exact Or.inl rfl|exact Or.inr (Or.inl rfl)|exact Or.inr (Or.inr rfl))(hd:(x==("__debug__":Str))=false:=by decide)
  (hcd:(x==("__classdict__":Str))=false:=by decide)
  (ha:∀v,assign (.Subscript (.Name x p) ek tp) X.env v=(do
   let ov<-holding [v] (eval (.Name x p) X.env)
   let iv<-holding [v,ov] (eval ek X.env)
   standAt tp
   holding [v,ov,iv] (setItem ov iv v)
   release [v,ov,iv] []):=by intro _;rfl)
  (hs:swapsWithSole [.Subscript (.Name x p) ek tp] e pos.line X.env=pure false:=by rfl)(hw:swappedStores [.Subscript (.Name x p) ek tp] e X.env=pure none:=by rfl)
  (h1:(assignEach [.Subscript (.Name x p) ek tp] X.env).map (·.2)=[assign (.Subscript (.Name x p) ek tp) X.env]:=by rfl):
  PS X (.Assign [.Subscript (.Name x p) ek tp] e pos) (tS X.K E fun env=>(f env).bind fun d=>(ownAt i env).bind fun xs=>(fk env).bind fun kd=>match kd with
   |.int j=>(match qH xs.length j with
    |some n=>.ok (.nx (env.set i (.own (xs.set n d))))
    |none=>.bad)
   |_=>.bad):=
 pV (BD he (BC (ji hN hv hd hcd) hk set_list ha) hs hw h1) fun De σ H ⟨g,env,os,r,m⟩=>⟨g,env,os,r,m.bind.mono fun d _ m1 v H1 s1 i1=>by
  obtain⟨xs,e,m2⟩:=m1.bind.own
  obtain⟨a,vs,h1,h2,h3,h4⟩:=(r.same s1).own i xs e
  refine⟨.ref a,h1,g,env,os,r.same s1,m2.bind.mono fun kd _ m3 w H2 s2 i2=>?_⟩
  cases kd with
  |int j=>
   cases q:qH xs.length j with
   |none=>
    simp only [q]at m3
    exact m3.elim
   |some n=>
    simp only [q]at m3
    refine⟨a,vs,j,n,rfl,i2,s2 _ _ h3,by rw[h4.length];exact q,?_⟩
    exact m3 σ _ os ((r.same (s1.trans s2)).mut e h1 h2 ((h4.same s2).set n (i1.same s2))) ((sS.same (s1.trans s2) os).trans (.mut h2))
  |non=>exact m3.elim
  |bl _=>exact m3.elim
  |lst _=>exact m3.elim
  |str _=>exact m3.elim
  |exc _=>exact m3.elim
  |fn _=>exact m3.elim
  |tup _=>exact m3.elim⟩
theorem Y5(i:Nat){x:Str}{e:Expr}{op:Operator}{h:Int->Int->Int}{f:DE->R D}{pos':Pos}(ho:TU X op (UI h))(he:PE X e (tB X.K E f))(hN:X.N.Nodup)(hi:X.N[i]?=some x:=by rfl)(hx:Loc X.env.scope x:=by first|exact Or.inl rfl|exact Or.inr rfl)
  (hf:X.fn x=true\/X.env.scope.names.lookup x=some .local:=by first|exact .inl rfl|exact .inr rfl|assumption):
  PS X (.AugAssign (.Name x pos') op e pos) (tS X.K E fun env=>(bG i env).bind fun a=>(f env).bind fun b=>match a,b with
   |.int u,.int w=>.ok (.nx (env.set i (.val (.int (h u w)))))
   |_,_=>.bad):=
 pV (BE hN hi hx he ho hf) fun De σ H ⟨g,env,os,r,m⟩=>by
  dsimp only [bG]at m
  cases q:env[i]? with
  |none=>rw[q]at m;exact m.elim
  |some sl=>
   cases sl with
   |no=>rw[q]at m;exact m.elim
   |raw _=>rw[q]at m;exact m.elim
   |deep _=>rw[q]at m;exact m.elim
   |own _=>rw[q]at m;exact m.elim
   |val a=>
    rw[q]at m
    obtain⟨v,h1,h2⟩:=r.val i a q
    have m':Good E g.H₀ ((f env).bind _) _:=m
    refine⟨v,h1,g,env,os,r,m'.bind.mono fun b _ m2 w H' s i2=>?_⟩
    cases a with
    |int u=>
     cases b with
     |int w'=>exact⟨u,w',h2,i2,m2 _ H' os ((r.same s).set i rfl) (.same s os)⟩
     |non=>exact m2.elim
     |bl _=>exact m2.elim
     |lst _=>exact m2.elim
     |str _=>exact m2.elim
     |exc _=>exact m2.elim
     |fn _=>exact m2.elim
     |tup _=>exact m2.elim
    |non=>exact m2.elim
    |bl _=>exact m2.elim
    |lst _=>exact m2.elim
    |str _=>exact m2.elim
    |exc _=>exact m2.elim
    |fn _=>exact m2.elim
    |tup _=>exact m2.elim
def Yl(K:PySem.W.Frag)(P:Addr->Prop)(J:It)(H:Hp)(xs:List D):Prop:=
 ∀(i:Nat)(H':Hp)(P':Addr->Prop),Ext P P' H H'->(∀d,xs[i]?=some d->J.go i H'/\∀x QQ,J.UJ i H' x QQ->aM H' QQ/\Is K (fun a=>P' a\/H' a=none) QQ d x)/\(xs.length=i->J.stop i H')
def tI(K:PySem.W.Frag)(E:Str->Hp->Prop)(f:DE->R (List D)):TI:=fun σ H Rr=>∃g env os,Rel K g env σ H os/\Good E g.H₀ (f env) fun xs=>∀J H1,aM H H1->Yl K (g.P os) J H1 xs->Rr J H1
theorem LY{tg e:Expr}{t t':TI}(h:PI X tg e t)(w:∀σ H Q,t' σ H Q->t σ H Q):PI X tg e t':=fun pins s σ H Q I q=>h pins s σ H Q I (w σ H Q q)
def Yls(K:PySem.W.Frag)(P:Addr->Prop)(J:It)(H:Hp)(xs:List D):Prop:=
 ∀(i:Nat)(H':Hp)(P':Addr->Prop),aM H H'->Ext P P' H H'->(∀d,xs[i]?=some d->J.go i H'/\∀x QQ,J.UJ i H' x QQ->aM H' QQ/\Is K (fun a=>P' a\/H' a=none) QQ d x)/\(xs.length=i->J.stop i H')
def Xn(K:PySem.W.Frag)(E:Str->Hp->Prop)(f:DE->R (List D)):TI:=fun σ H Rr=>∃g env os,Rel K g env σ H os/\Good E g.H₀ (f env) fun xs=>∀J H1,aM H H1->Yls K (g.P os) J H1 xs->Rr J H1
theorem BX{tg e:Expr}{f:DE->R (List D)}(h:PI X tg e (tI X.K E f)):PI X tg e (Xn X.K E f):=LY h fun σ H Q ⟨g,env,os,r,m⟩=>⟨g,env,os,r,m.mono fun xs _ q J H1 s1 yl=>q J H1 s1 fun i H' P' _ ex=>yl i H' P' ex⟩
theorem iLS{tg e:Expr}{f:DE->R (List D)}(he:PE X e (tL X.K E f)):PI X tg e (Xn X.K E f):=
 LY (uU he) fun σ H Q ⟨g,env,os,r,m⟩=>⟨g,env,os,r,m.mono fun xs _ q a vs H' s h1 h2=>by
  refine⟨a,rfl,⟨vs,h1⟩,q _ H' s fun j H2 P' ss ex=>⟨fun d hd=>?_,fun hj=>?_⟩⟩
  ·obtain⟨x,hx,hi⟩:=(IsL.ext ex _ _ h2).get hd
   refine⟨⟨vs,x,ss.seq h1,hx⟩,fun y H3 hy=>?_⟩
   obtain⟨rfl,hy⟩:=hy
   have e2:=hy vs (ss.seq h1)
   rw[hx]at e2
   cases e2
   exact⟨aM.refl _,Is.ext ⟨fun _ _ p _=>.inl p,fun _ _ _ z=>z⟩ _ _ hi⟩
  ·exact⟨vs,ss.seq h1,by rw[IsL.length h2];exact le_of_eq hj⟩⟩
theorem iL{tg e:Expr}{f:DE->R D}(he:PE X e (tD X.K E f)):PI X tg e (tI X.K E fun env=>(f env).bind vR):=
 LY (uU he) fun σ H Q ⟨g,env,os,r,m⟩=>⟨g,env,os,r,m.bind.mono fun d _ q v H' s i=>by
  cases d with
  |lst xs=>
   obtain⟨a,vs,rfl,h1,h2⟩:=i
   refine⟨a,rfl,⟨vs,h1.sq⟩,q _ H' s fun j H2 P' ex=>⟨fun d hd=>?_,fun hj=>?_⟩⟩
   ·obtain⟨x,hx,hi⟩:=(IsL.ext ex _ _ h2).get hd
    refine⟨⟨vs,x,(h1.ext ex).sq,hx⟩,fun y H3 hy=>?_⟩
    obtain⟨rfl,hy⟩:=hy
    have e2:=hy vs (h1.ext ex).sq
    rw[hx]at e2
    cases e2
    exact⟨aM.refl _,Is.ext ⟨fun _ _ p _=>.inl p,fun _ _ _ z=>z⟩ _ _ hi⟩
   ·exact⟨vs,(h1.ext ex).sq,by rw[IsL.length h2];exact le_of_eq hj⟩
  |non=>exact q.elim
  |bl _=>exact q.elim
  |int _=>exact q.elim
  |str _=>exact q.elim
  |exc _=>exact q.elim
  |fn _=>exact q.elim
  |tup _=>exact q.elim⟩
def pX(lo:Int)(n:Nat):List D:=(range n).map fun i=>.int (lo+(i:Nat))
def FE:List D->R (List D)
 |[.int i,.int j]=> @ite _ (-(2^62)<=i/\i<2^62/\ -(2^62)<=j/\j<2^62) (propDecidable _) (.ok (pX i (j-i).toNat)) (.bad)
 |_=>.bad
theorem QR{K:PySem.W.Frag}{P:Addr->Prop}{H:Hp}(lo:Int)(n:Nat):Yl K P (Xi lo n) H (pX lo n):=fun i H' P' ex=>⟨fun d hd=>by
 unfold pX at hd
 rw[getElem?_map]at hd
 have hi:i<n:=by
  cases q:(range n)[i]? with
  |none=>rw[q]at hd;cases hd
  |some j=>simpa using(List.getElem?_eq_some_iff.mp q).1
 rw[List.getElem?_range hi]at hd
 cases hd
 refine⟨hi,fun x H2 hy=>?_⟩
 obtain⟨rfl,rfl⟩:=hy
 exact⟨aM.refl _,rfl⟩,fun h=>by
 unfold pX at h
 exact le_of_eq (by simpa using h)⟩
theorem iR2{tg a b:Expr}{p:Pos}{f:DE->R (List D)}(hm:X.mg "range"=none)(ha:PA X [a,b] (sQ X.K E f))(hg:Gl X "range":=by rfl)(hs:starEach [a,b] X.env=[(false,eval a X.env),(false,eval b X.env)]:=by rfl)(hs2:starEach [b] X.env=[(false,eval b X.env)]:=by rfl):
  PI X tg (.Call (.Name "range" p) [a,b] [] pos) (tI X.K E fun env=>(f env).bind FE):=
 LY (Ff hg hm ha hs hs2) fun σ H Q ⟨g,env,os,r,m⟩=>⟨g,env,os,r,m.bind.mono fun ds _ q vs H' s i=>by
  unfold FE at q
  split at q
  ·rename_i u j _
   split at q
   ·rename_i c
    obtain⟨v,w,rfl,h1,h2⟩:=IsL.QO i
    have h':v=.int u:=h1
    have Y2:w=.int j:=h2
    subst h' Y2
    exact⟨u,j,rfl,c,q _ H' s (QR u _)⟩
   ·exact q.elim
  ·exact q.elim⟩
def tG(K:PySem.W.Frag)(E:Str->Hp->Prop)(b:D->DE->R DE):TG:=fun v σ H Q=>∃g env os d,Rel K g env σ H os/\Is K (g.P os) H d v/\Good E g.H₀ (b d env) fun e'=>∀σ',Rel K g e' σ' H os->Q σ' H
def NX(K:PySem.W.Frag)(E:Str->Hp->Prop)(b:List D->DE->R DE):Lr:=fun vs σ H Q=>∃g env os ds,Rel K g env σ H os/\IsL K (g.P os) H ds vs/\Good E g.H₀ (b ds env) fun e'=>∀σ',Rel K g e' σ' H os->Q σ' H
theorem Vo{e:Expr}{t t':TG}(h:PG X e t)(w:∀v σ H Q,t' v σ H Q->t v σ H Q):PG X e t':=fun pins s σ H v u Q I r q=>h pins s σ H v u Q I r (w v σ H Q q)
theorem NY{e:List Expr}{t t':Lr}(h:CZ X e t)(w:∀v σ H Q,t' v σ H Q->t v σ H Q):CZ X e t':=fun pins s σ H v u Q I r q=>h pins s σ H v u Q I r (w v σ H Q q)
theorem gN(i:Nat){x:Str}(hN:X.N.Nodup)(hi:X.N[i]?=some x:=by rfl)(hx:Loc X.env.scope x:=by first|exact Or.inl rfl|exact Or.inr rfl)(hf:X.fn x=true\/X.env.scope.names.lookup x=some .local:=by first|exact .inl rfl|exact .inr rfl|assumption):
  PG X (.Name x pos) (tG X.K E fun d env=>.ok (env.set i (.val d))):=Vo (yQ hN hi hx hf) fun v σ H Q ⟨g,env,os,d,r,h,m⟩=>m _ (r.set i h)
theorem Vp:CZ X [] (NX X.K E fun ds env=>match ds with
  |[]=>.ok env
  |_=>.bad):=NY Ls fun vs σ H Q ⟨g,env,os,ds,r,h,m⟩=>by
 cases ds with
 |nil=>exact⟨h,m σ r⟩
 |cons _ _=>exact m.elim
theorem QS{e:Expr}{es:List Expr}{b:D->DE->R DE}{k:List D->DE->R DE}(h1:PG X e (tG X.K E b))(h2:CZ X es (NX X.K E k))(hs:(assignEach (e::es) X.env).map (·.2)=assign e X.env::(assignEach es X.env).map (·.2):=by rfl):
  CZ X (e::es) (NX X.K E fun ds env=>match ds with
   |d::r=>(b d env).bind fun e'=>k r e'
   |_=>.bad):=NY (G3 h1 h2 hs) fun vs σ H Q ⟨g,env,os,ds,r,h,m⟩=>by
 cases ds with
 |nil=>exact m.elim
 |cons d rest=>
  obtain⟨v,vr,rfl,p,q⟩:=h
  have m':Good E g.H₀ ((b d env).bind fun e'=>k rest e') _:=m
  exact⟨v,vr,rfl,g,env,os,d,r,p,m'.bind.mono fun e' _ m2 σ' r'=>⟨g,e',os,rest,r',q,m2⟩⟩
theorem gT{es:List Expr}{kk:Nat}{b:List D->DE->R DE}{n:Nat}(hc:X.calm=true)(h:CZ X es (NX X.K E b))(hn:(assignEach es X.env).length=n:=by rfl)(hst:(assignEach es X.env).findIdx? (·.1)=none:=by rfl):
  PG X (.Tuple es kk pos) (tG X.K E fun d env=>match d with
   |.tup ds=>if ds.length=n then b ds env else .bad
   |_=>.bad):=Vo (Qj hc h hn hst) fun v σ H Q ⟨g,env,os,d,r,h,m⟩=>by
 cases d with
 |tup ds=>
  obtain⟨a,vs,rfl,h1,h2⟩:=h
  have m':Good E g.H₀ (if ds.length=n then b ds env else .bad) _:=m
  split at m'
  ·rename_i c
   exact⟨a,vs,rfl,h1.sq,by rw[IsL.length h2];exact c,g,env,os,ds,r,h2,m'⟩
  ·exact m'.elim
 |non=>exact m.elim
 |bl _=>exact m.elim
 |int _=>exact m.elim
 |str _=>exact m.elim
 |lst _=>exact m.elim
 |exc _=>exact m.elim
 |fn _=>exact m.elim
theorem xN{tg iter:Expr}{body:List Stmt}{f:DE->R (List D)}{b:D->DE->R DE}{k:DE->R Out}(hp:PassesOwn (model X.prog X.w) X.A X.env X.xe)(hc:X.calm=true)(hi:PI X tg iter (tI X.K E f))(hg:PG X tg (tG X.K E b))(hb:ql X body (tS X.K E k))
  (hs:∀x,foldedSetIterable iter X.env x=pure x:=by intro _;rfl):PS X (.For tg iter body [] pos) (tS X.K E fun env=>(f env).bind fun xs=>gG (fun d e=>(b d e).bind k) xs env):=
 pV (G8 hp hc hi hg hb hs) fun De σ H ⟨g,env,os,r,m⟩=>⟨g,env,os,r,m.bind.mono fun xs _ m1 J H1 s1 yl=>by
  refine⟨fun i n σ' H'=>n=xs.length-i/\i<=xs.length/\∃xJ jh,Rel X.K g xJ σ' H' jh/\sS H1 os H' jh/\Good E g.H₀ (gG (fun d e=>(b d e).bind k) (xs.drop i) xJ) (iA X.K g H' jh De),
   ⟨xs.length,by simp,zero_le _,env,os,r.same s1,.refl _ _,by rw[drop_zero];exact m1.mono fun o _ q=>iA.step (.same s1 os) q⟩,?_⟩
  rintro i n σ' H' ⟨rfl,hi,xJ,jh,r',st,m2⟩
  obtain⟨y1,y2⟩:=yl i H' (g.P jh) st.ext
  by_cases hlt:i<xs.length
  ·have hx:xs[i]?=some xs[i]:=getElem?_eq_getElem hlt
   obtain⟨go,y3⟩:=y1 _ hx
   rw[drop_eq_getElem_cons hlt]at m2
   refine .inr ⟨go,fun σ2 H2=>∃Vq TX,Rel X.K g Vq σ2 H2 TX/\sS H1 os H2 TX/\Good E g.H₀ (gG (fun d e=>(b d e).bind k) (xs.drop (i+1)) Vq) (iA X.K g H2 TX De),fun σ2 H2 ⟨e2,o2,r2,t2,g2⟩=>⟨xs.length-(i+1),by omega,rfl,hlt,e2,o2,r2,t2,g2⟩,fun x H2 hy=>?_⟩
   obtain⟨s2,Vr⟩:=y3 x H2 hy
   have r2:=r'.same s2
   have ix:Is X.K (g.P jh) H2 xs[i] x:=Is.ext ⟨fun a o p _=>p.elim (fun z=>z) fun z=>r'.fresh z,fun _ _ _ z=>z⟩ _ _ Vr
   have m3:Good E g.H₀ (((b xs[i] xJ).bind k).bind _) _:=m2
   refine⟨g,xJ,jh,xs[i],r2,ix,m3.bind.bind.mono fun e3 _ m4 σ3 r3=>⟨g,e3,jh,r3,Good.mono m4 fun o _ q=>?_⟩⟩
   have K1:=st.trans (sS.same s2 jh)
   cases o with
   |nx e4=>exact fun σ4 H4 Vs r4 z=>⟨e4,Vs,r4,K1.trans z,Good.mono (show Good E g.H₀ (gG _ _ e4) _ from q) fun o _ q=>iA.step ((sS.same s2 jh).trans z) q⟩
   |ct e4=>exact fun σ4 H4 Vs r4 z=>⟨e4,Vs,r4,K1.trans z,Good.mono (show Good E g.H₀ (gG _ _ e4) _ from q) fun o _ q=>iA.step ((sS.same s2 jh).trans z) q⟩
   |bk e4=>exact fun σ4 H4 Vs r4 z=>(show iA X.K g H' jh De (.nx e4)from q) σ4 H4 Vs r4 ((sS.same s2 jh).trans z)
   |rt d=>exact q
   |o8 ys=>exact q
   |LU ys=>exact q
   |K3 ys=>exact q
   |LS ys=>exact q
   |Dc ys=>exact q
  ·have e:i=xs.length:=by omega
   subst e
   rw[drop_length]at m2
   exact .inl ⟨y2 rfl,(show iA X.K g H' jh De (.nx xJ)from m2) σ' H' jh r' (.refl _ _)⟩⟩
end
def aP(n:Nat)(ds:List D):DE:=ds.map .val++replicate (n-ds.length) .no
theorem sV{K:PySem.W.Frag}{N:List Str}{P:Addr->Prop}{H:Hp}{ds:List D}{vs:List V}(h:IsL K P H ds vs):Rel K ⟨P,H⟩ (aP N.length ds) (L2.start N vs) H []:=by
 have hl:=h.length
 refine⟨by simp[aP,L2.start,hl],aM.refl H,fun i d e=>?_,fun i xs e=>?_,fun i j xs ys a e=>?_,(fun a ha=>nomatch ha),fun i v e=>?_,BV.none fun i v e=>?_⟩
 ·unfold aP at e
  by_cases hi:i<ds.length
  ·rw[getElem?_append_left (by simpa using hi),getElem?_map,getElem?_eq_getElem hi]at e
   have e':Sl.val ds[i]=Sl.val d:=Option.some.inj e
   cases e'
   obtain⟨v,h1,h2⟩:=h.get (getElem?_eq_getElem hi)
   refine⟨v,?_,Is.ext ⟨fun a o p _=>⟨.inl p,by simp⟩,fun _ _ _ z=>z⟩ _ _ h2⟩
   unfold L2.start
   rw[getElem?_append_left (by simp;omega),getElem?_map,h1]<;>rfl
  ·rw[getElem?_append_right (by simp;omega)]at e
   have:=getElem?_replicate (n:=N.length-ds.length) (a:=Sl.no) (i:=i-(ds.map Sl.val).length)
   rw[this]at e
   split at e<;>cases e
 ·exfalso
  unfold aP at e
  by_cases hi:i<ds.length
  ·rw[getElem?_append_left (by simpa using hi),getElem?_map,getElem?_eq_getElem hi]at e
   cases e
  ·rw[getElem?_append_right (by simp;omega)]at e
   have:=getElem?_replicate (n:=N.length-ds.length) (a:=Sl.no) (i:=i-(ds.map Sl.val).length)
   rw[this]at e
   split at e<;>cases e
 ·exfalso
  unfold aP at e
  by_cases hi:i<ds.length
  ·rw[getElem?_append_left (by simpa using hi),getElem?_map,getElem?_eq_getElem hi]at e
   cases e
  ·rw[getElem?_append_right (by simp;omega)]at e
   have:=getElem?_replicate (n:=N.length-ds.length) (a:=Sl.no) (i:=i-(ds.map Sl.val).length)
   rw[this]at e
   split at e<;>cases e
 ·exfalso
  unfold aP at e
  by_cases hi:i<ds.length
  ·rw[getElem?_append_left (by simpa using hi),getElem?_map,getElem?_eq_getElem hi]at e
   cases e
  ·rw[getElem?_append_right (by simp;omega)]at e
   have:=getElem?_replicate (n:=N.length-ds.length) (a:=Sl.no) (i:=i-(ds.map Sl.val).length)
   rw[this]at e
   split at e<;>cases e
 ·exfalso
  unfold aP at e
  by_cases hi:i<ds.length
  ·rw[getElem?_append_left (by simpa using hi),getElem?_map,getElem?_eq_getElem hi]at e
   cases e
  ·rw[getElem?_append_right (by simp;omega)]at e
   have:=getElem?_replicate (n:=N.length-ds.length) (a:=Sl.no) (i:=i-(ds.map Sl.val).length)
   rw[this]at e
   split at e<;>cases e
def ah:Out->R D
 |.rt d=>.ok d
 |.o8 xs=>.ok (.lst xs)
 |.nx _=>.ok .non
 |_=>.bad
def aj:Out->R (List D)
 |.o8 xs=>.ok xs
 |_=>.bad
abbrev EN:Str->Hp->Prop:=fun _ _=>False
section
variable{P:Program}{w:World}{K:PySem.W.Frag}{mg:Str->Option Value}{base:Heap}
theorem Is.P0 {Q:Addr->Prop}{H H':Hp}{d:D}{v:V}(h:Is K ((⟨Q,H⟩:Gh).P []) H' d v):Is K (fun a=>Q a\/H a=none) H' d v:=Is.ext ⟨fun _ _ p _=>p.1,fun _ _ _ z=>z⟩ _ _ h
theorem Y6{x qual:Str}{st:Stmt}{f:Addr}{fd:FuncData}{N ps:List Str}{k:Nat}{xc:Str->Value}{m:List D->R D}{b:DE->R Out}(F:z8 K x qual st f fd)(S:aD N ps (ae st))
  (hm:∀ds d,m ds=.ok d->ds.length=ps.length/\(b (aP N.length ds)).bind ah=.ok d)(hne:∀ds c,m ds≠.err c)
  (hb:∀(cdv:Value)(A:Around)(outer:List Env)(s:Shared)(H:Hp)(E:XK),aZ k (A.deeper (envOfC qual (ae st) s.heap.objs.size f cdv))->ql (qo kC P w K mg base N qual (ae st) f cdv A outer s H E).GC (bH st) (tS K EN b)):
  cu P w K mg base kC (k+1) f fd ps (Dh K xc m):=by
 refine F.ok S (fun vs H Q E h=>?_) (fun cdv A outer s H vs Q E hr h=>?_)
 ·obtain⟨Pa,ds,i,h⟩:=h
  cases e:m ds with
  |ok d=>rw[i.length];exact(hm ds d e).1
  |err c=>exact(hne ds c e).elim
  |bad=>rw[e]at h;exact h.elim
 ·obtain⟨Pa,ds,i,h⟩:=h
  refine⟨_,hb cdv A outer s H E hr,⟨⟨Pa,H⟩,aP N.length ds,[],sV i,?_⟩⟩
  cases e:m ds with
  |err c=>exact(hne ds c e).elim
  |bad=>rw[e]at h;exact h.elim
  |ok d=>
   rw[e]at h
   obtain⟨_,q⟩:=hm ds d e
   cases eb:b (aP N.length ds)with
   |bad=>rw[eb]at q;cases q
   |err c=>rw[eb]at q;cases q
   |ok o=>
    rw[eb]at q
    cases o with
    |rt d'=>
     cases q
     exact fun v H' s' i'=>h v H' s' i'.P0
    |o8 xs=>
     cases q
     intro a C9 H' s' hn hH i'
     exact h _ H' s' ⟨a,C9,rfl,.inl ⟨.inr hn,.inl hH⟩,IsL.ext ⟨fun b o p _=>p.1,fun _ _ _ z=>z⟩ _ _ i'⟩
    |nx e'=>
     cases q
     exact fun σ' H' jh r' _=>h _ H' r'.ext rfl
    |LU _=>cases q
    |K3 _=>cases q
    |LS _=>cases q
    |Dc _=>cases q
    |bk _=>cases q
    |ct _=>cases q
theorem Y7{x qual:Str}{st:Stmt}{f:Addr}{fd:FuncData}{N ps:List Str}{k:Nat}{xc:Str->Value}{m:List D->R (List D)}{b:DE->R Out}(F:z8 K x qual st f fd)(S:aD N ps (ae st))
  (hm:∀ds d,m ds=.ok d->ds.length=ps.length/\(b (aP N.length ds)).bind aj=.ok d)(hne:∀ds c,m ds≠.err c)
  (hb:∀(cdv:Value)(A:Around)(outer:List Env)(s:Shared)(H:Hp)(E:XK),aZ k (A.deeper (envOfC qual (ae st) s.heap.objs.size f cdv))->ql (qo kC P w K mg base N qual (ae st) f cdv A outer s H E).GC (bH st) (tS K EN b)):
  cu P w K mg base kC (k+1) f fd ps (K5 K xc m):=by
 refine F.ok S (fun vs H Q E h=>?_) (fun cdv A outer s H vs Q E hr h=>?_)
 ·obtain⟨Pa,ds,i,h⟩:=h
  cases e:m ds with
  |ok d=>rw[i.length];exact(hm ds d e).1
  |err c=>exact(hne ds c e).elim
  |bad=>rw[e]at h;exact h.elim
 ·obtain⟨Pa,ds,i,h⟩:=h
  refine⟨_,hb cdv A outer s H E hr,⟨⟨Pa,H⟩,aP N.length ds,[],sV i,?_⟩⟩
  cases e:m ds with
  |err c=>exact(hne ds c e).elim
  |bad=>rw[e]at h;exact h.elim
  |ok d=>
   rw[e]at h
   obtain⟨_,q⟩:=hm ds d e
   cases eb:b (aP N.length ds)with
   |bad=>rw[eb]at q;cases q
   |err c=>rw[eb]at q;cases q
   |ok o=>
    rw[eb]at q
    cases o with
    |rt d'=>cases q
    |o8 xs=>
     cases q
     intro a C9 H' s' hn hH i'
     exact h a C9 H' s' hn hH (IsL.ext ⟨fun b o p _=>⟨p.1,fun z=>p.2 (by simp[z])⟩,fun _ _ _ z=>z⟩ _ _ i')
    |nx e'=>cases q
    |LU _=>cases q
    |K3 _=>cases q
    |LS _=>cases q
    |Dc _=>cases q
    |bk _=>cases q
    |ct _=>cases q
end
def zQ(cells:List (Str×Addr)):List (Str×NameKind)->List (Str×Addr)->List (Str×Addr)
 |[],acc=>acc
 |(n,k)::r,acc=>if(k==NameKind.free)=true then zQ cells r ((n,(cells.lookup n).getD 0)::acc)else zQ cells r acc
theorem p9{scope:Scope}{env:Env}(h:∀y∈scope.names,y.2=.free->∃c,env.cells.lookup y.1=some c):closureFor scope env=pure (zQ env.cells scope.names []):=by
 have gen:∀(l:List (Str×NameKind))(acc:List (Str×Addr)),(∀y∈l,y.2=.free->∃c,env.cells.lookup y.1=some c)->
   (forIn l acc fun(x:Str×NameKind)(r:List (Str×Addr))=>(if(x.2==NameKind.free)=true then(do let a<-cellOf env x.1;pure (ForInStep.yield ((x.1,a)::r)))else pure (ForInStep.yield r):Sem (ForInStep (List (Str×Addr)))))=pure (zQ env.cells l acc):=by
  intro l
  induction l with
  |nil=>intro acc _;rfl
  |cons y r ih=>
   intro acc hy
   obtain⟨n,k⟩:=y
   rw[List.forIn_cons]
   have hr:∀y∈r,y.2=.free->∃c,env.cells.lookup y.1=some c:=fun y h=>hy y (mem_cons_of_mem _ h)
   by_cases hk:(k==NameKind.free)=true
   ·obtain⟨c,hc⟩:=hy (n,k) mem_cons_self (by simpa using hk)
    have GX:env.cells.lookup n=some c:=hc
    simp only [hk,if_true,zQ,cellOf,GX,Option.getD_some]
    exact ih _ hr
   ·simp only [hk,zQ]
    exact ih _ hr
 show((forIn scope.names ([]:List (Str×Addr)) fun(x:Str×NameKind)(r:List (Str×Addr))=>(if(x.2==NameKind.free)=true then(do let a<-cellOf env x.1;pure (ForInStep.yield ((x.1,a)::r)))else pure (ForInStep.yield r):Sem (ForInStep (List (Str×Addr)))))>>=fun s=>pure s)=_
 rw[gen scope.names [] h]
 rfl
theorem qq{cells:List (Str×Addr)}{x:Str}:∀(l:List (Str×NameKind))(acc:List (Str×Addr)),(∀y∈l,y.2=.free->∃c,cells.lookup y.1=some c)->(∀c,acc.lookup x=some c->cells.lookup x=some c)->
  ∀c,(zQ cells l acc).lookup x=some c->cells.lookup x=some c
 |[],acc,_,h,c,e=>h c e
 |(n,k)::r,acc,hy,h,c,e=>by
  unfold zQ at e
  have hr:∀y∈r,y.2=.free->∃c,cells.lookup y.1=some c:=fun y h=>hy y (mem_cons_of_mem _ h)
  split at e
  ·rename_i hk
   refine qq r _ hr (fun c' e'=>?_) c e
   rw[lookup_cons]at e'
   obtain⟨c0,hc0⟩:=hy (n,k) mem_cons_self (by simpa using hk)
   have Vt:cells.lookup n=some c0:=hc0
   cases hx:x==n with
   |true=>
    rw[hx]at e'
    have ex:x=n:=by simpa using hx
    rw[Vt]at e'
    cases e'
    rw[ex];exact Vt
   |false=>
    rw[hx]at e'
    exact h c' e'
  ·exact qq r _ hr h c e
theorem uZ{cells:List (Str×Addr)}{x:Str}:∀(l:List (Str×NameKind))(acc:List (Str×Addr)),((∃c,acc.lookup x=some c)\/(x,NameKind.free)∈l)->∃c,(zQ cells l acc).lookup x=some c
 |[],acc,h=>h.elim (fun z=>z) fun z=>nomatch z
 |(n,k)::r,acc,h=>by
  unfold zQ
  split
  ·rename_i hk
   refine uZ r _ ?_
   by_cases hx:x=n
   ·exact .inl ⟨_,by rw[lookup_cons,beq_iff_eq.mpr hx]⟩
   ·rcases h with⟨c,h⟩|h
    ·refine .inl ⟨c,?_⟩
     rw[lookup_cons,beq_eq_false_iff_ne.mpr hx];exact h
    ·rcases mem_cons.mp h with z|z
     ·cases z;exact absurd rfl hx
     ·exact .inr z
  ·rename_i hk
   refine uZ r _ ?_
   rcases h with h|h
   ·exact .inl h
   ·rcases mem_cons.mp h with z|z
    ·cases z;exact absurd (by simp) hk
    ·exact .inr z
def sW(X:Cx)(scope:Scope)(N:List Str)(s:Shared)(H:Hp)(fp:List Addr)(C:Addr)(pl:List (Addr×Obj)):Cx where
 prog:=X.prog
 w:=X.w
 K:=X.K
 mg:=X.mg
 base:=X.base
 A:=X.A
 N:=N
 s₀:=s
 H₀:=H
 env:=compEnvC scope (zQ X.env.cells scope.names []) C X.env
 outer:=X.stack
 stack:=X.stack
 ex:=fp
 fn:=fun _=>false
 calm:=X.calm
 pn:=pl
 xe:=fun _ _=>False
structure iP(X:Cx)(scope:Scope)(N:List Str)(nt:Nat)(caps:List Nat):Prop where
 kind:scope.kind=.function
 cell:∀y∈scope.names,y.2≠.cell
 names:∀y∈scope.names,y.2=.local->scope.names.lookup y.1=some .local
 free:∀y∈scope.names,y.2=.free->X.env.kindOf y.1=some .cell\/X.env.kindOf y.1=some .free
 len:N.length=nt+caps.length
 nd:N.Nodup
 caps:∀(j i:Nat),caps[j]?=some i->∃x,N[nt+j]?=some x/\X.N[i]?=some x/\scope.names.lookup x=some .free/\x8 X.env.scope x
theorem f9{scope:Scope}{env:Env}{x:Str}{k:NameKind}(h:(relabel scope env).names.lookup x=some k):∃k',scope.names.lookup x=some k'/\(k=k'\/(k'=.free/\k=.cell)):=by
 unfold relabel at h
 dsimp only at h
 generalize scope.names=l at h
 induction l with
 |nil=>cases h
 |cons y r ih=>
  obtain⟨n,kk⟩:=y
  rw[map_cons]at h
  by_cases hc:(kk==NameKind.free&&env.scope.kind==.function&&env.kindOf n==some .cell)=true
  ·simp only [hc,if_true]at h
   rw[lookup_cons]at h⊢
   cases hx:x==n with
   |true=>
    rw[hx]at h
    cases h
    simp only [and_eq_true]at hc
    exact⟨kk,rfl,.inr ⟨by simpa using hc.1.1,rfl⟩⟩
   |false=>
    rw[hx]at h
    exact ih h
  ·simp only [hc,false_eq_true,if_false]at h
   rw[lookup_cons]at h⊢
   cases hx:x==n with
   |true=>
    rw[hx]at h
    exact⟨kk,rfl,.inl (Option.some.inj h).symm⟩
   |false=>
    rw[hx]at h
    exact ih h
theorem mem_of_lookup{α:Type}{l:List (Str×α)}{x:Str}{k:α}(h:l.lookup x=some k):(x,k)∈l:=by
 induction l with
 |nil=>cases h
 |cons y r ih=>
  obtain⟨n,kk⟩:=y
  rw[lookup_cons]at h
  cases hx:x==n with
  |true=>
   rw[hx]at h
   cases h
   have ex:x=n:=by simpa using hx
   rw[ex];exact mem_cons_self
  |false=>
   rw[hx]at h
   exact mem_cons_of_mem _ (ih h)
section
variable{X:Cx}{scope:Scope}{N:List Str}{nt:Nat}{caps:List Nat}{pins:List (Addr×Obj)}{σ:St}{H:Hp}{s:Shared}
theorem iP.cells (S:iP X scope N nt caps)(I:Inv X pins σ H s):∀y∈scope.names,y.2=.free->∃c,X.env.cells.lookup y.1=some c:=fun y hy hf=>I.ok.has y.1 (S.free y hy hf)
theorem iP.lk (S:iP X scope N nt caps)(I:Inv X pins σ H s){x:Str}{c:Addr}(h:(zQ X.env.cells scope.names []).lookup x=some c):X.env.cells.lookup x=some c:=
 qq scope.names [] (S.cells I) (fun c e=>by cases e) c h
theorem iP.start (S:iP X scope N nt caps)(I:Inv X pins σ H s){fp:List Addr}(hf:∀b∈fp,nH X pins H b){C:Addr}{h':Heap}{m:Str->Option Value}{t':Nat}(hC:s.heap.objs.size<=C)(hn:h'.Ns C m)(k:∀b o,s.heap.get? b=some o->h'.get? b=some o)
  (hpin:∀b∈fp,∃o,s.heap.get? b=some o)
  {vs:List V}(hv:vs.length=caps.length)(hvs:∀(j i:Nat)(v:V),caps[j]?=some i->vs[j]?=some v->σ[i]?=some (some v))(σ':St)(hσ:σ'=replicate nt none++vs.map some):
  Inv (sW X scope N s H fp C (X.pn++pins)) [] σ' H {s with heap:=h',toks:=t'}:=by
 subst hσ
 have hH:∀b,s.heap.objs.size<=b->H b=none:=fun b hb=>I.hok.fresh hb
 have lk:=fun{x c}(h:(zQ X.env.cells scope.names []).lookup x=some c)=>S.lk I h
 have ok:(sW X scope N s H fp C (X.pn++pins)).Ok:={
  mod:=I.ok.mod
  kind:=S.kind
  glob:=I.ok.glob
  blt:=I.ok.blt
  above:=hC
  inj:=fun x y c h1 h2=>I.ok.inj x y c (lk h1) (lk h2)
  has:=fun x h=>by
   have h':(relabel scope X.env).names.lookup x=some .cell\/(relabel scope X.env).names.lookup x=some .free:=h
   have hfree:scope.names.lookup x=some .free:=by
    rcases h' with h'|h'
    ·obtain⟨k',e,q⟩:=f9 h'
     rcases q with rfl|⟨rfl,_⟩
     ·exact absurd rfl (S.cell _ (mem_of_lookup e))
     ·exact e
    ·obtain⟨k',e,q⟩:=f9 h'
     rcases q with rfl|⟨rfl,q⟩
     ·exact e
     ·exact e
   exact uZ scope.names [] (.inr (mem_of_lookup hfree))
  NK:=fun x c h=>nomatch h
  hd:=I.ok.hd
  frames:=I.ok.frames
  Ux:=.inl rfl
  Uy:=fun b hb=>by
   obtain⟨o,e⟩:=hpin b hb
   exact⟨fun z=>absurd (lt_of_lt_of_le (Heap.lt_size e) (by rw[z];exact hC)) (Nat.lt_irrefl _),fun x c h=>(hf b hb).2.2.2.2.1 x c (lk h)⟩
  bs:=I.bs
  K0:=le_trans I.ok.K0 I.sz
  E9:=fun b o e hb=>by
   rcases(hf b hb).2.2.2.1 with z|z
   ·exact I.ok.E9 b o e z
   ·exact absurd (lt_of_lt_of_le (Heap.lt_size e) (le_trans I.ok.K0 z)) (Nat.lt_irrefl _)
  By:=fun b hb z=>by
   rcases mem_cons.mp (I.yO b z)with q|q
   ·exact(hf b hb).2.1 q
   ·exact(hf b hb).2.2.1 q
  sE:=I.stack
  NN:=I.CW}
 refine⟨ok,rfl,I.bare,Un.kept k,⟨m,hn,fun i x v e1 e2 e3=>?_⟩,fun x c e=>?_,hH C hC,fun x c e=>I.p4 x c (lk e),fun p hp=>?_,I.hok.kept k,?_⟩
 ·have hi:nt<=i:=by
   refine Nat.le_of_not_lt fun z=>?_
   rw[getElem?_append_left (by simpa using z),getElem?_replicate]at e2
   split at e2<;>cases e2
  rw[getElem?_append_right (by simpa using hi),getElem?_map]at e2
  have TZ:(vs[i-nt]?).map some=some (some v):=by simpa using e2
  cases q:vs[i-nt]? with
  |none=>rw[q]at TZ;cases TZ
  |some v'=>
   rw[q]at TZ
   cases TZ
   have hj:i-nt<caps.length:=by rw[<-hv];exact(List.getElem?_eq_some_iff.mp q).1
   obtain⟨x',h1,h2,h3,h4⟩:=S.caps (i-nt) caps[i-nt] (getElem?_eq_getElem hj)
   have ex:x'=x:=by
    have LR:N[i]?=some x:=e1
    rw[show nt+(i-nt)=i by omega,LR]at h1
    exact(Option.some.inj h1).symm
   subst ex
   have hs:=hvs (i-nt) _ v (getElem?_eq_getElem hj) q
   obtain⟨m0,hn0,hl0⟩:=I.loc
   obtain⟨u,r,l⟩:=hl0 _ x' v h2 hs h4
   refine⟨u,r,?_⟩
   have hkx:=S.free _ (mem_of_lookup h3) rfl
   rcases l with⟨k1,_⟩|⟨k1,c,hc,hcell⟩
   ·have Xo:X.env.kindOf x'=some .local:=k1
    rcases hkx with z|z
    ·have z':X.env.kindOf x'=some .cell:=z
     rw[Xo]at z';cases z'
    ·have z':X.env.kindOf x'=some .free:=z
     rw[Xo]at z';cases z'
   ·obtain⟨c',GX⟩:=uZ (cells:=X.env.cells) (x:=x') scope.names [] (.inr (mem_of_lookup h3))
    have:=lk GX
    rw[hc]at this
    cases this
    refine .inr ⟨?_,c,GX,let⟨o,ho,hd⟩:=hcell;⟨o,k _ o ho,hd⟩⟩
    rcases e3 with z|z|z
    ·exfalso
     obtain⟨k',e,q⟩:=f9 (show(relabel scope X.env).names.lookup x'=some .local from z)
     rcases q with rfl|⟨_,q⟩
     ·rw[h3]at e;cases e
     ·cases q
    ·exact .inl z
    ·exact .inr z
 ·obtain⟨v,z⟩:=I.cell x c (lk e)
  exact⟨v,let⟨o,ho,hd⟩:=z;⟨o,k _ o ho,hd⟩⟩
 ·have T3:p∈X.pn++pins:=by simpa[sW]using hp
  obtain⟨e,n,ne,nf,d⟩:=I.pin p T3
  refine⟨k _ _ e,n,fun z=>absurd (lt_of_lt_of_le (Heap.lt_size e) (by rw[z];exact hC)) (Nat.lt_irrefl _),fun z=>?_,d⟩
  rcases mem_cons.mp (I.yO _ z)with q|q
  ·exact ne q
  ·exact nf q
 ·show(replicate nt none++vs.map some).length=N.length
  rw[S.len];simp[hv]
end
section
variable{prog:Program}{w:World}{A:Around}{E:Value->Shared->Prop}{R:Result->Shared->Prop}{s:Shared}
theorem uh{elt target iter:Expr}{ifs:List Expr}{scope:Scope}{pos:Pos}{it acc:Value}{env:Env}(I:Nat->Shared->Prop)
  (turn:∀n s,I n s->wpAny (model prog w) A (pyNext it) (fun r s₁=>match r with
   |none=>R (.ok .next) s₁
   |some v=>wpAny (model prog w) A (letOwnedTupleGo target it v) (fun _ s₁'=>wpAny (model prog w) A (assign target env v) (fun _ s₂=>
     wpAny (model prog w) A (forIn ifs true fun c r=>if r=true then do let ok<-isTrue c env (eval c env);pure (ForInStep.yield ok)else pure (ForInStep.yield r)) (fun ok s₃=>
      if ok=true then wpAny (model prog w) A (eval elt env) (fun x s₄=>
       wpAny (model prog w) A (call (.builtin "list.append") [acc,x]) (fun _ s₅=>∃m,m<n/\I m s₅) (fun _ _=>False) s₄) (fun _ _=>False) s₃
      else∃m,m<n/\I m s₃) (fun _ _=>False) s₂) (fun _ _=>False) s₁') (fun _ _=>False) s₁) (fun _ _=>False) s)
  (n:Nat)(h:I n s):
  codeAny (model prog w) A (.compLoop (.ListComp elt [⟨target,iter,ifs,0⟩] scope pos) 0 it acc env) R s:=by
 refine codeAny_loop rfl I (fun n s hI=>?_) n h
 show wpAny _ A ((compTurn (.ListComp elt [⟨target,iter,ifs,0⟩] scope pos) 0 it acc env).onRaise (fun x=>do noteFrame x env;theTreesLotGoes x)) _ _ s
 refine wpAny_noted ?_
 rw[compTurn_list]
 refine wpAny_bind (wpAny_standAt (wpAny_bind (wpAny_mono (turn n s hI) (fun r s₁ h₁=>?_) fun _ _ h'=>h'.elim)))
 cases r with
 |none=>exact wpAny_pure h₁
 |some v=>
  refine wpAny_bind (wpAny_mono h₁ (fun _ s₁' h₁'=>?_) fun _ _ h'=>h'.elim)
  refine wpAny_bind (wpAny_mono h₁' (fun _ s₂ h₂=>wpAny_bind (wpAny_mono h₂ (fun ok s₃ h₃=>?_) fun _ _ h'=>h'.elim)) fun _ _ h'=>h'.elim)
  cases ok with
  |false=>exact wpAny_pure ⟨rfl,h₃⟩
  |true=>
   exact wpAny_bind (wpAny_bind (wpAny_mono h₃ (fun x s₄ h₄=>wpAny_bind (wpAny_mono h₄ (fun _ s₅ h₅=>wpAny_pure (wpAny_pure ⟨rfl,h₅⟩)) fun _ _ h'=>h'.elim)) fun _ _ h'=>h'.elim))
end
def Xp(X:Cx)(ifs:List Expr)(t:TT):Prop:=
 ∀(pins:List (Addr×Obj))(s:Shared)(σ:St)(H:Hp)(Q:Bool->Hp->Prop),Inv X pins σ H s->t σ H Q->
  wpAny (model X.prog X.w) X.A (forIn ifs true fun c r=>if r=true then do let ok<-isTrue c X.env (eval c X.env);pure (ForInStep.yield ok)else pure (ForInStep.yield r)) (TP X pins σ Q) X.xe s
theorem T4{X:Cx}{E:Str->Hp->Prop}:Xp X [] (tT X.K E fun _=>.ok true):=fun pins s σ H Q I ⟨g,env,os,r,m⟩=>wpAny_tests_nil ⟨H,I,m H (aM.refl H)⟩
theorem ts1{X:Cx}{E:Str->Hp->Prop}{c:Expr}{f:DE->R Bool}(h:PT X c (tT X.K E f)):Xp X [c] (tT X.K E f):=fun pins s σ H Q I q=>wpAny_tests_one (h pins s σ H Q I q)
def dN(b:D->DE->R DE)(ct:DE->R Bool)(fe:DE->R D)(e₀:DE):List D->R (List D)
 |[]=>.ok []
 |x::xs=>(b x e₀).bind fun e=>(ct e).bind fun t=>if t=true then(fe e).bind fun d=>(dN b ct fe e₀ xs).bind fun ds=>.ok (d::ds)else dN b ct fe e₀ xs
def jk(env:DE):List Nat->R (List D)
 |[]=>.ok []
 |i::r=>(bG i env).bind fun d=>(jk env r).bind fun ds=>.ok (d::ds)
theorem Good.jk {K:PySem.W.Frag}{E:Str->Hp->Prop}{H₀ H:Hp}{g:Gh}{σ:St}{os:List Addr}{env:DE}(r:Rel K g env σ H os):∀{caps:List Nat}{p:List D->Prop},Good E H₀ (jk env caps) p->
  ∃ds vs,p ds/\vs.length=caps.length/\ds.length=caps.length/\IsL K (g.P os) H ds vs/\∀(j i:Nat)(v:V),caps[j]?=some i->vs[j]?=some v->σ[i]?=some (some v)
 |[],p,h=>⟨[],[],h,rfl,rfl,rfl,fun j i v e=>by simp at e⟩
 |i::rest,p,h=>by
  have h1:=h.bind
  unfold bG at h1
  split at h1
  ·rename_i d e
   have h2:Good E H₀ ((DL.jk env rest).bind fun ds=>.ok (d::ds)) p:=h1
   obtain⟨ds,vs,q1,q2,q3,q4,q5⟩:=Good.jk r h2.bind
   obtain⟨v,s1,s2⟩:=r.val i d e
   refine⟨d::ds,v::vs,q1,by simp[q2],by simp[q3],.cons s2 q4,fun j i' v' e1 e2=>?_⟩
   cases j with
   |zero=>simp at e1 e2;subst e1 e2;exact s1
   |succ j=>exact q5 j i' v' (by simpa using e1) (by simpa using e2)
  ·exact h1.elim
def lI(nt:Nat)(ds:List D):DE:=replicate nt Sl.no++ds.map .val
theorem Di{nt:Nat}{ds:List D}{i:Nat}{d:D}(h:(lI nt ds)[i]?=some (.val d)):nt<=i/\ds[i-nt]?=some d:=by
 unfold lI at h
 have hi:nt<=i:=by
  refine Nat.le_of_not_lt fun z=>?_
  rw[getElem?_append_left (by simpa using z),getElem?_replicate]at h
  split at h<;>cases h
 rw[getElem?_append_right (by simpa using hi),getElem?_map]at h
 refine⟨hi,?_⟩
 simp only [length_replicate]at h
 cases q:ds[i-nt]? with
 |none=>rw[q]at h;cases h
 |some d'=>rw[q]at h;cases h;rfl
theorem u9{nt:Nat}{ds:List D}{i:Nat}{xs:List D}(h:(lI nt ds)[i]?=some (.own xs)):False:=by
 unfold lI at h
 by_cases hi:i<nt
 ·rw[getElem?_append_left (by simpa using hi),getElem?_replicate]at h
  split at h<;>cases h
 ·rw[getElem?_append_right (by simp;omega),getElem?_map]at h
  cases q:ds[i-(replicate nt Sl.no).length]? with
  |none=>rw[q]at h;cases h
  |some d'=>rw[q]at h;cases h
theorem Ag{nt:Nat}{ds:List D}{i:Nat}{w:Ct}(h:(lI nt ds)[i]?=some (.deep w)):False:=by
 unfold lI at h
 by_cases hi:i<nt
 ·rw[getElem?_append_left (by simpa using hi),getElem?_replicate]at h
  split at h<;>cases h
 ·rw[getElem?_append_right (by simp;omega),getElem?_map]at h
  cases q:ds[i-(replicate nt Sl.no).length]? with
  |none=>rw[q]at h;cases h
  |some d'=>rw[q]at h;cases h
theorem Dj{nt:Nat}{ds:List D}{i:Nat}{w:V}(h:(lI nt ds)[i]?=some (.raw w)):False:=by
 unfold lI at h
 by_cases hi:i<nt
 ·rw[getElem?_append_left (by simpa using hi),getElem?_replicate]at h
  split at h<;>cases h
 ·rw[getElem?_append_right (by simp;omega),getElem?_map]at h
  cases q:ds[i-(replicate nt Sl.no).length]? with
  |none=>rw[q]at h;cases h
  |some d'=>rw[q]at h;cases h
section
variable{X:Cx}{pins:List (Addr×Obj)}{σ:St}{H:Hp}{s:Shared}{h':Heap}
theorem Ah{fp:List Addr}{t':Nat}(I:Inv X pins σ H s)(hf:∀b∈fp,nH X pins H b)(k:∀b u,b∉fp->s.heap.get? b=some u->h'.get? b=some u):Inv X pins σ H {s with heap:=h',toks:=t'}:=by
 have Vu:∀b u,H b=some u->b∉fp:=fun b u e z=>by rw[(hf b z).1]at e;cases e
 refine I.step (g':=s.gens) (d':=s.drawn) (ch:=fp) (fun b hb=>⟨(hf b hb).2.2.2.1,(hf b hb).2.1,(hf b hb).2.2.2.2.1,(hf b hb).2.2.2.2.2⟩) (fun b u _ _ hc e _=>k b u hc e) (fun b u _ _ hc e _=>⟨u.slots,k b u hc e⟩)
  (fun b u _ e n=>n) (fun b u hc e=>⟨u,k b u hc e⟩) (fun b xs e=>e) (fun b u xs e=>e) (fun b ps e=>⟨#[],by rw[e];simp⟩) (fun m hm=>?_) (fun b u e=>?_) I.bare
 ·obtain⟨ob,es,ep,ho,r⟩:=hm
  exact⟨ob,es,ep,k _ ob (fun z=>(hf _ z).2.1 rfl) ho,r⟩
 ·refine(I.hok b u e).Bx (fun c v hc q=>k c v ?_ q) (fun c q=>q) fun c xs q=>q
  rcases hc with z|z
  ·rw[z];exact Vu b u e
  ·exact Vu c _ z
end
def R.ne {α:Type}:R α->R α
 |.ok a=>.ok a
 |_=>.bad
theorem R.HC {α:Type}(a:α):(R.ok a).ne=.ok a:=rfl
theorem R.eg {α β:Type}{r:R α}{k:α->R β}{y:β}(h:r.bind k=.ok y):∃a,r=.ok a/\k a=.ok y:=by
 cases r with
 |ok a=>exact⟨a,rfl,h⟩
 |err c=>cases h
 |bad=>cases h
theorem vc{α:Type}{E:Str->Hp->Prop}{H₀:Hp}{r:R α}{a:α}{p:α->Prop}(e:r=.ok a)(h:p a):Good E H₀ r p:=by rw[e];exact h
section
variable{X:Cx}{E:Str->Hp->Prop}{pos:Pos}{scope:Scope}{N:List Str}{nt:Nat}{caps:List Nat}
theorem Dk{K:PySem.W.Frag}{g:Gh}{e:DE}{σ:St}{H H':Hp}{a:Addr}{ds:List D}{ts:DE}(r:Rel K g e σ H [a])(he:e=ts++ds.map .val)(hl:ts.length=nt)(x:Ext (g.P [a]) (g.P [a]) H H')(s:aM g.H₀ H')(hn:∃o,H' a=some o):
  Rel K g (lI nt ds) σ H' [a]:=by
 subst he
 refine⟨by rw[r.len];simp[lI,hl],s,fun i d e=>?_,fun i xs e=>(u9 e).elim,fun i j xs ys b e=>(u9 e).elim,fun b hb=>?_,fun i w e=>(Dj e).elim,BV.none fun i w e=>Ag e⟩
 ·obtain⟨h1,h2⟩:=Di e
  obtain⟨v,q1,q2⟩:=r.val i d (by rw[getElem?_append_right (by omega),hl,getElem?_map,h2];rfl)
  exact⟨v,q1,Is.ext x _ _ q2⟩
 ·have e:b=a:=by simpa using hb
  subst e
  exact⟨(r.new b hb).1,hn⟩
def Y8(X:Cx)(pins:List (Addr×Obj))(σ:St)(g:Gh)(os:List Addr)(H:Hp)(use:Option (Value->Sem Unit))(Qv:Value->Shared->Prop)(ys:List D):Prop:=
 ∀(Dd C:Addr)(acc:List V)(Hx:Hp)(s6:Shared),Inv X pins σ Hx s6->(∃m,s6.heap.Ns C m)->nH X pins Hx C->aM H Hx->H Dd=none->Hx Dd=some (.lst acc)->IsL X.K (g.P (Dd::os)) Hx ys acc->
  compPost (model X.prog X.w) X.A X.xe use Qv (.ref Dd) C (.ok .next) s6
theorem LZ{elt tg iter:Expr}{ifs:List Expr}{fi:DE->R (List D)}{b:D->DE->R DE}{ct:DE->R Bool}{fe:DE->R D}(S:iP X scope N nt caps)(Ai:X.calm=true)(hi:PI X tg iter (Xn X.K E fi))
  (hb1:∀ds d e,b d (lI nt ds)=.ok e->∃ts,e=ts++ds.map .val/\ts.length=nt)
  (hg:∀s H fp C pl,PG (sW X scope N s H fp C pl) tg (tG X.K EN b))(ht:∀s H fp C pl,Xp (sW X scope N s H fp C pl) ifs (tT X.K EN ct))(he:∀s H fp C pl,PE (sW X scope N s H fp C pl) elt (tD X.K EN fe))
  (hs:∀x,foldedSetIterable iter X.env x=pure x){use:Option (Value->Sem Unit)}{Qv:Value->Shared->Prop}{pins:List (Addr×Obj)}{s:Shared}{σ:St}{H:Hp}{env:DE}{os:List Addr}{g:Gh}(I:Inv X pins σ H s)(r:Rel X.K g env σ H os)
  (m:Good E g.H₀ ((fi env).bind fun xs=>(jk env caps).bind fun ds=>(dN b ct fe (lI nt ds) xs).ne.bind fit) (Y8 X pins σ g os H use Qv)){ps:Pos}:
  wpAny (model X.prog X.w) X.A (comprehension (.ListComp elt [⟨tg,iter,ifs,0⟩] scope pos) scope X.env ps (newList []) false (eval iter X.env) use) Qv X.xe s:=by
 refine wpAny_comprehension_free (use:=use) rfl hs (p9 (S.cells I)) S.kind S.names ?_
 refine cj (hi pins s σ H (fun J H1=>∃xs,aM H H1/\Yls X.K (g.P os) J H1 xs/\Good E g.H₀ ((jk env caps).bind fun ds=>(dN b ct fe (lI nt ds) xs).ne.bind fit) _) I ⟨g,env,os,r,m.bind.mono fun xs _ m1 J H1 s1 yl=>⟨xs,s1,yl,m1⟩⟩) fun v s1 h1=>cj h1 fun itv s2 h2=>?_
 obtain⟨it,fp,tn,J,H2,rfl,I2,T,K1,f2,xs,L4,yl,m1⟩:=h2
 have r2:=r.same L4
 obtain⟨ds,vs,m2,Vv,Xq,hds,hvs⟩:=m1.bind.jk r2
 cases ec:dN b ct fe (lI nt ds) xs with
 |bad=>rw[ec]at m2;exact m2.elim
 |err c=>rw[ec]at m2;exact m2.elim
 |ok ys=>
 rw[ec]at m2
 obtain⟨hz,q⟩:=(show Good E g.H₀ (fit ys) _ from m2).fit
 refine wpAny_newObj_type (wpAny_newFunctionEnv S.cell (by intro y hy;simp at hy) (fun h₁ BZ hsb₁=>?_) S.kind)
 dsimp only at BZ hsb₁⊢
 have QT:H2 s2.heap.objs.size=none:=I2.hok.fresh (Nat.le_refl _)
 have I3:Inv X pins σ (upd H2 s2.heap.objs.size (.lst [])) {s2 with heap:=s2.heap.push {cls:=.type "list",dict:=none,data:=.seq ([]:List Value).toArray}}:=
  I2.laid (t':=s2.toks) (fun b u e=>Heap.get?_push_of_some _ e) (Nat.le_refl _) ⟨zero_le _,[],0,.nil,Heap.get?_push_size _ rfl⟩
 generalize Vw:({s2 with heap:=s2.heap.push {cls:=.type "list",dict:=none,data:=.seq ([]:List Value).toArray}}:Shared)=s3 at I3
 have QU:s3.heap=s2.heap.push {cls:=.type "list",dict:=none,data:=.seq ([]:List Value).toArray}:=by rw[<-Vw]
 rw[<-QU]at BZ hsb₁⊢
 generalize Y9:s2.heap.objs.size=Dd at*
 have k3:∀b o,s3.heap.get? b=some o->h₁.get? b=some o:=fun b o e=>hsb₁.extBut b o (ne_of_lt (Heap.lt_size e)) (Heap.get?_push_of_some _ e)
 have HD:∀b∈fp,∃o,s2.heap.get? b=some o:=fun b hb=>let⟨o,e,_⟩:=T.obj 0 _ K1 b hb;⟨o,e⟩
 have QV:∀b∈fp,∃o,s3.heap.get? b=some o:=fun b hb=>let⟨o,e⟩:=HD b hb;⟨o,by rw[QU];exact Heap.get?_push_of_some _ e⟩
 have Za:∀b∈fp,b≠Dd:=fun b hb=>let⟨o,e⟩:=HD b hb;by rw[<-Y9];exact ne_of_lt (Heap.lt_size e)
 have f3:∀b∈fp,nH X pins (upd H2 Dd (.lst [])) b:=fun b hb=>⟨by rw[ai (Za b hb)];exact(f2 b hb).1,(f2 b hb).2⟩
 have sD:aM H2 (upd H2 Dd (.lst [])):=aO QT _
 have I4:=S.start (t':=s2.toks+([]:List (Str×Value)).length) I3 f3 (Nat.le_refl _) BZ k3 QV Vv (fun j i v e1 e2=>hvs j i v e1 e2) _ rfl
 generalize hX:sW X scope N s3 (upd H2 Dd (.lst [])) fp s3.heap.objs.size (X.pn++pins)=X' at I4
 have Vx:=hg s3 (upd H2 Dd (.lst [])) fp s3.heap.objs.size (X.pn++pins)
 have GJ:=ht s3 (upd H2 Dd (.lst [])) fp s3.heap.objs.size (X.pn++pins)
 have Vy:=he s3 (upd H2 Dd (.lst [])) fp s3.heap.objs.size (X.pn++pins)
 rw[hX]at Vx GJ Vy
 have eK:X'.K=X.K:=by rw[<-hX];rfl
 have eP:X'.prog=X.prog:=by rw[<-hX];rfl
 have eW:X'.w=X.w:=by rw[<-hX];rfl
 have eA:X'.A=X.A:=by rw[<-hX];rfl
 have eE:X'.xe=fun _ _=>False:=by rw[<-hX];rfl
 have eC:X'.calm=true:=by rw[<-hX];exact Ai
 have eL:X'.env.locals=s3.heap.objs.size:=by rw[<-hX];rfl
 have eS:X'.s₀=s3:=by rw[<-hX];rfl
 have eX:X'.ex=fp:=by rw[<-hX];rfl
 have eF:X'.fs=Bt X.stack:=by rw[<-hX];rfl
 have eN:X'.pn=X.pn++pins:=by rw[<-hX];rfl
 have eH:X'.H₀=upd H2 Dd (.lst []):=by rw[<-hX];rfl
 have eV:X'.env=compEnvC scope (zQ X.env.cells scope.names []) s3.heap.objs.size X.env:=by rw[<-hX];rfl
 have QW:∀{Hx:Hp},(∀b∈fp,Hx b=none)->∀b∈fp,nH X' [] Hx b:=fun{Hx} hn b hb=>by
  obtain⟨_,c1,c2,c3,c4,c5⟩:=f3 b hb
  have q:=I4.ok.Uy b (by rw[eX];exact hb)
  refine⟨hn b hb,q.1,I4.ok.By b (by rw[eX];exact hb),.inl (by rw[eX];exact hb),q.2,fun p hp=>?_⟩
  rw[eN,append_nil]at hp
  exact c5 p hp
 let g':Gh:=⟨g.P os,H2⟩
 have exP:∀{Hx:Hp},aM H2 Hx->Ext (g.P os) (g'.P [Dd]) H2 Hx:=fun sx=>⟨fun a o p e=>⟨.inl p,fun z=>by
  have z':a=Dd:=by simpa using z
  rw[z',QT]at e;cases e⟩,fun a o _ e=>sx a o e⟩
 have Zb:Rel X.K g' (lI nt ds) (replicate nt none++vs.map some) (upd H2 Dd (.lst [])) [Dd]:=by
  refine⟨by simp[lI,Vv,Xq],sD,fun i d e=>?_,fun i xs e=>(u9 e).elim,fun i j xs ys b e=>(u9 e).elim,fun b hb=>?_,fun i w e=>(Dj e).elim,BV.none fun i w e=>Ag e⟩
  ·obtain⟨h1,h2⟩:=Di e
   obtain⟨v,q1,q2⟩:=hds.get h2
   refine⟨v,?_,Is.ext (exP sD) _ _ q2⟩
   rw[getElem?_append_right (by simpa using h1),getElem?_map,length_replicate,q1]<;>rfl
  ·have e:b=Dd:=by simpa using hb
   subst e
   exact⟨QT,_,ar⟩
 have loop:∀s4:Shared,Inv X' [] (replicate nt none++vs.map some) (upd H2 Dd (.lst [])) s4->tn 0 s4.heap->
   codeAny (model X.prog X.w) X.A (.compLoop (.ListComp elt [⟨tg,iter,ifs,0⟩] scope pos) 0 (.ref it) (.ref Dd) (compEnvC scope (zQ X.env.cells scope.names []) s3.heap.objs.size X.env))
    (compPost (model X.prog X.w) X.A X.xe use Qv (.ref Dd) s3.heap.objs.size) s4:=by
  intro s4 J4 HE
  refine uh (fun n s'=>∃i acc as rest Hx σ',n=xs.length-i/\i<=xs.length/\Inv X' [] σ' Hx s'/\tn i s'.heap/\(∀b∈fp,Hx b=none)/\Hx Dd=some (.lst acc)/\IsL X.K (g'.P [Dd]) Hx as acc/\
   dN b ct fe (lI nt ds) (xs.drop i)=.ok rest/\as++rest=ys/\Rel X.K g' (lI nt ds) σ' Hx [Dd]) ?_ xs.length
   ⟨0,[],[],ys,_,_,by simp,zero_le _,J4,HE,fun b hb=>(f3 b hb).1,ar,rfl,by rw[drop_zero];exact ec,rfl,Zb⟩
  rintro n s5 ⟨i,acc,as,rest,Hx,σ5,rfl,hi5,J5,Lv,K2,Vz,Zc,c5,e5,r5⟩
  obtain⟨y1,y2⟩:=yl i Hx (g'.P [Dd]) r5.ext (exP r5.ext)
  by_cases hlt:i<xs.length
  ·have hx:xs[i]?=some xs[i]:=getElem?_eq_getElem hlt
   obtain⟨go,y3⟩:=y1 _ hx
   rw[drop_eq_getElem_cons hlt]at c5
   obtain⟨e1,Xs,c6⟩:=R.eg (show(b xs[i] (lI nt ds)).bind _=.ok rest from c5)
   obtain⟨t,Xu,c7⟩:=R.eg c6
   have TI:=T.item X' eP eW eK eC i [] s5 σ5 Hx (fun _ _=>False) J5 (QW K2) Lv go
   rw[eA]at TI
   refine cj TI fun r s6 h6=>?_
   obtain⟨u,rfl,h6⟩:=h6
   refine cj h6 fun _ s7 h7=>?_
   obtain⟨x,H7,J7,rx,hy,QX,Zd⟩:=h7
   obtain⟨T5,hix⟩:=y3 x H7 hy
   have ix:Is X.K (g'.P [Dd]) H7 xs[i] x:=Is.ext ⟨fun a o p _=>p.elim (fun z=>z) fun z=>r5.fresh z,fun _ _ _ z=>z⟩ _ _ hix
   have Ze:=J7.pinned (QW Zd) (T.obj _ _ QX)
   have TG:=Vx _ s7 σ5 H7 x u (fun σ8 H8=>∃e8,b xs[i] (lI nt ds)=.ok e8/\Rel X.K g' e8 σ8 H8 [Dd]/\H8=H7) Ze rx ⟨g',lI nt ds,[Dd],xs[i],r5.same T5,ix,vc Xs fun σ8 r8=>⟨e1,Xs,r8,rfl⟩⟩
   rw[eP,eW,eA,eE,eV]at TG
   refine cj TG fun _ s8 h8=>?_
   obtain⟨σ8,H8,J8,e8,hb8,r8,hH8⟩:=h8
   rw[hH8]at J8 r8
   rw[Xs]at hb8
   cases hb8
   have TT:=GJ _ s8 σ8 H7 (fun t' H9=>t'=t/\aM H7 H9) J8 ⟨g',e1,[Dd],r8,vc Xu fun H9 s9=>⟨rfl,s9⟩⟩
   rw[eP,eW,eA,eE,eV]at TT
   refine cj TT fun ok s9 h9=>?_
   obtain⟨H9,J9,rfl,K6⟩:=h9
   obtain⟨ts,hts,T6⟩:=hb1 ds _ _ Xs
   have Dl:∀{σx:St}{Hy:Hp}{sx:Shared},Inv X' ([]++sG fp s7.heap) σx Hy sx->tn (i+1) sx.heap/\∀b∈fp,Hy b=none:=fun{σx Hy sx} Jx=>
    ⟨T.keep _ _ _ QX fun b hb o e=>(Jx.pin (b,o) (mem_append_right _ (mem_append_right _ (iF hb e)))).1,fun b hb=>by
     obtain⟨o,e,d⟩:=T.obj _ _ QX b hb
     exact(Jx.pin (b,o) (mem_append_right _ (mem_append_right _ (iF hb e)))).2.1⟩
   cases ok with
   |false=>
    rw[if_neg Bool.false_ne_true]
    have c8:dN b ct fe (lI nt ds) (xs.drop (i+1))=.ok rest:=c7
    obtain⟨k1,k2⟩:=Dl J9
    exact⟨xs.length-(i+1),by omega,i+1,acc,as,rest,H9,σ8,rfl,hlt,J9.lJ,k1,k2,K6 _ _ (T5 _ _ Vz),(Zc.same T5).same K6,c8,e5,
     Dk r8 hts T6 (.same K6) (r8.ext.trans K6) ⟨_,K6 _ _ (T5 _ _ Vz)⟩⟩
   |true=>
    rw[if_pos rfl]
    obtain⟨d,he5,c8⟩:=R.eg (show(fe e1).bind _=.ok rest from c7)
    obtain⟨HF,hr5,c9⟩:=R.eg c8
    have c9':rest=d::HF:=by cases c9;rfl
    subst c9'
    have TE:=Vy _ s9 σ8 H9 (fun v Aj=>aM H9 Aj/\Is X.K (g'.P [Dd]) Aj d v) J9 ⟨g',e1,[Dd],r8.same K6,vc he5 fun v Aj VA i10=>⟨VA,i10⟩⟩
    rw[eP,eW,eA,eE,eV]at TE
    refine cj TE fun y VA Zf=>?_
    obtain⟨v,Aj,Zg,rv,L5,iv⟩:=Zf
    have QY:Aj Dd=some (.lst acc):=L5 _ _ (K6 _ _ (T5 _ _ Vz))
    have VB:IsL X.K (g'.P [Dd]) Aj as acc:=((Zc.same T5).same K6).same L5
    have TM:=fy (X:=X') _ VA σ8 Aj (.ref Dd) [v] (.ref Dd) [y] (fun _ T7=>T7=upd Aj Dd (.lst (acc++[v]))) Zg rfl (.cons rv .nil) ⟨Dd,acc,v,rfl,rfl,QY,by
     rw[VB.length]
     have:(as++d::HF).length<=sizeLine:=by rw[e5];exact hz
     rw[length_append,length_cons]at this
     omega,rfl⟩
    rw[eP,eW,eA,eE]at TM
    refine cj TM fun _ s11 h11=>?_
    obtain⟨v',T7,VC,_,rfl⟩:=h11
    obtain⟨k1,k2⟩:=Dl VC
    have exD:Ext (g'.P [Dd]) (g'.P [Dd]) Aj (upd Aj Dd (.lst (acc++[v]))):=⟨fun _ _ p _=>p,fun a o p e=>by rw[ai (fun z=>p.2 (by simp[z]))];exact e⟩
    have Zh:aM H2 Aj:=(r8.ext.trans K6).trans L5
    refine⟨xs.length-(i+1),by omega,i+1,acc++[v],as++[d],HF,_,σ8,rfl,hlt,VC.lJ,k1,k2,ar,IsL.ext exD _ _ (VB.app (.one iv)),hr5,by rw[List.append_assoc];exact e5,?_⟩
    exact Dk (r8.same (K6.trans L5)) hts T6 exD (fun a o e=>by rw[ai (au (show H2 a=some o from e) QT)];exact Zh a o e) ⟨_,ar⟩
  ·have e:i=xs.length:=by omega
   subst e
   rw[drop_length]at c5
   have c5':rest=[]:=by cases c5;rfl
   subst c5'
   rw[append_nil]at e5
   subst e5
   have TD:=T.done X' eP eW eK eC xs.length [] s5 σ5 Hx (fun _ _=>False) J5 (QW K2) Lv (y2 rfl)
   rw[eA]at TD
   refine cj TD fun r s6 h6=>?_
   obtain⟨rfl,J6⟩:=h6
   obtain⟨m6,QZ,_⟩:=J6.loc
   rw[eL]at QZ
   have Zi:Un (Bt X.stack) fp (upd H2 Dd (.lst [])) Hx s3.heap s6.heap:=by
    have u:=J6.base
    rw[eF,eX,eH,eS]at u
    exact u
   have hxC:Hx s3.heap.objs.size=none:=by have:=J6.free;rw[eL]at this;exact this
   have Q0:pU X.prog X.w Hx s6.heap:=by
    have z:=J6.hok
    rw[eP,eW]at z
    exact z
   have Zj:s6.os=s3.os:=by have:=J6.os;rw[eS]at this;exact this
   have I6:Inv X pins σ Hx s6:=I3.NQ (s':=s6) Zj Zi Q0 J6.bare fun b hb=>by
    obtain⟨_,c1,c2,c3,c4,c5⟩:=f3 b hb
    exact⟨c3,c1,c4,c5⟩
   have fC:nH X pins Hx s3.heap.objs.size:=⟨hxC,(I3.Fd (Nat.le_refl _) (I3.hok.fresh (Nat.le_refl _))).2⟩
   refine q Dd s3.heap.objs.size acc Hx s6 I6 ⟨m6,QZ⟩ fC (L4.trans r5.ext) (L4.free QT) Vz (IsL.ext ⟨fun a o p _=>?_,fun _ _ _ z=>z⟩ _ _ Zc)
   have z:g.P os a:=p.1.elim (fun z=>z) fun z=>r2.fresh z
   exact⟨z.1,fun hm=>(mem_cons.mp hm).elim (fun z=>p.2 (by simp[z])) z.2⟩
 have HE:tn 0 h₁:=T.keep _ _ _ K1 fun b hb o e=>k3 b o (by rw[QU];exact Heap.get?_push_of_some _ e)
 have eG:({heap:=h₁,gens:=s3.gens,drawn:=s3.drawn,toks:=s2.toks+([]:List (Str×Value)).length,os:=s3.os}:Shared)={heap:=h₁,gens:=s2.gens,drawn:=s2.drawn,toks:=s2.toks+([]:List (Str×Value)).length,os:=s2.os}:=by rw[<-Vw]
 rw[eG]at I4
 exact codeAny_compStart_list (loop _ I4 HE) (T.self _ 0 _ _ _ HE (loop _ I4 HE))
variable{elt tg iter:Expr}{ifs:List Expr}{fi:DE->R (List D)}{b:D->DE->R DE}{ct:DE->R Bool}{fe:DE->R D}
theorem ui(S:iP X scope N nt caps)(Ai:X.calm=true)(hi:PI X tg iter (Xn X.K E fi))
  (hb1:∀ds d e,b d (lI nt ds)=.ok e->∃ts,e=ts++ds.map .val/\ts.length=nt)
  (hg:∀s H fp C pl,PG (sW X scope N s H fp C pl) tg (tG X.K EN b))(ht:∀s H fp C pl,Xp (sW X scope N s H fp C pl) ifs (tT X.K EN ct))(he:∀s H fp C pl,PE (sW X scope N s H fp C pl) elt (tD X.K EN fe))
  (hs:∀x,foldedSetIterable iter X.env x=pure x:=by intro _;rfl):
  PE X (.ListComp elt [⟨tg,iter,ifs,0⟩] scope pos) (tF X.K E fun env=>(fi env).bind fun xs=>(jk env caps).bind fun ds=>(dN b ct fe (lI nt ds) xs).ne.bind fit):=by
 intro pins s σ H Q I h
 obtain⟨g,env,os,r,m⟩:=h
 rw[eval_ListComp]
 refine LZ S Ai hi hb1 hg ht he hs I r (m.mono fun ys _ q Dd C acc Hx s6 I6 hn fC sm hD hx ia=>?_)
 obtain⟨m6,QZ⟩:=hn
 refine⟨m6,QZ,fun h7 Zk=>⟨.ref Dd,Hx,Ah (fp:=[C]) (t':=s6.toks) I6 (fun b hb=>by
  have z:b=C:=by simpa using hb
  rw[z];exact fC) (fun b u hb e=>(Zk.2 b (fun z=>hb (by simp[z]))).trans e),rfl,q Dd acc Hx sm hD hx ia⟩⟩
end
section
variable{X:Cx}{pins:List (Addr×Obj)}{σ:St}{H:Hp}{s:Shared}{h':Heap}
theorem L6{fp:List Addr}{t:Addr}{o:HO}{t':Nat}(I:Inv X pins σ H s)(hf:∀b∈fp,nH X pins H b)(k:∀b u,b∉fp->s.heap.get? b=some u->h'.get? b=some u)(hex:∀b∈fp,∀u,s.heap.get? b=some u->∃u',h'.get? b=some u')(ht:s.heap.objs.size<=t)
  (new:dg X.prog X.w (upd H t o) h' t o):Inv X pins σ (upd H t o) {s with heap:=h',toks:=t'}:=by
 have hn:H t=none:=I.hok.fresh ht
 have Vu:∀b u,H b=some u->b∉fp:=fun b u e z=>by rw[(hf b z).1]at e;cases e
 refine I.step (g':=s.gens) (d':=s.drawn) (ch:=fp) (fun b hb=>⟨(hf b hb).2.2.2.1,(hf b hb).2.1,(hf b hb).2.2.2.2.1,(hf b hb).2.2.2.2.2⟩) (fun b u _ _ hc e _=>k b u hc e) (fun b u _ _ hc e _=>⟨u.slots,k b u hc e⟩)
  (fun b u _ e n=>by rw[ai (ne_of_lt (lt_of_lt_of_le (Heap.lt_size e) ht))];exact n) (fun b u hc e=>⟨u,k b u hc e⟩)
  (fun b xs e=>by rw[ai (au e hn)];exact e) (fun b u xs e=>by rw[ai (au e hn)];exact e) (fun b ps e=>⟨#[],by rw[ai (au e hn),e];simp⟩)
  (fun m hm=>?_) (fun b u e=>?_) I.bare
 ·obtain⟨ob,es,ep,ho,r⟩:=hm
  exact⟨ob,es,ep,k _ ob (fun z=>(hf _ z).2.1 rfl) ho,r⟩
 ·by_cases hb:b=t
  ·subst hb;rw[ar]at e;cases e;exact new
  ·rw[ai hb]at e
   refine(I.hok b u e).Bx (fun c v hc q=>k c v ?_ q) (fun c q=>by rw[ai (au q hn)];exact q) fun c xs q=>by rw[ai (au q hn)];exact q
   rcases hc with z|z
   ·rw[z];exact Vu b u e
   ·exact Vu c _ z
end
def Ite(K:PySem.W.Frag)(l:Addr):It:=
 ⟨fun i H=>∃xs x,cX K H l xs/\xs[i]?=some x,fun i H x H'=>∃t y,H t=none/\H'=upd H t (.tup [.int (i:Nat),y])/\x=.ref t/\∀xs,cX K H l xs->xs[i]?=some y,fun i H=>∃xs,cX K H l xs/\xs.length<=i⟩
theorem FG{P:Program}{w:World}{K:PySem.W.Frag}{elts:List Expr}{kk:Nat}{pp:Pos}(l e it:Addr)(hei:e≠it):
  Turn P w K (.Tuple elts kk pp) (Ite K l) [e,it] e (fun i h=>(∃old,IsEnum h e it (i:Nat) old)/\h.IsListIter it l i) where
 mem:=by simp
 obj:=fun i h st b hb=>by
  obtain⟨⟨old,he⟩,o,e2,c,d⟩:=st
  rcases mem_cons.mp hb with rfl|hb
  ·exact⟨_,he,fun v z=>by cases z⟩
  ·have z:b=it:=by simpa using hb
   subst z
   exact⟨o,e2,fun v z=>by rw[d]at z;cases z⟩
 keep:=fun i h h' st k=>by
  obtain⟨⟨old,he⟩,hit⟩:=st
  exact⟨⟨old,k e (by simp) _ he⟩,hit.at fun o q=>k it (by simp) o q⟩
 item:=by
  intro X hP hw hK hc i pins s σ H E I hf st hg
  subst hP hw hK
  obtain⟨xs,x,hq,hx⟩:=hg
  obtain⟨its,rv,p,hz⟩:=I.list hq
  obtain⟨u,hu,ru⟩:=rv.get hx
  obtain⟨⟨old,he⟩,hit⟩:=st
  refine wpAny_pyNext_enum_item he hit p.isList (x:=u) (by simpa using hu) hei fun h' ho VD hT hsz hk=>?_
  refine⟨_,rfl,wpAny_letOwnedTupleGo_enum ho fun h'' VE L7=>?_⟩
  have hlt:e<s.heap.objs.size:=Heap.lt_size he
  have Zl:it<s.heap.objs.size:=by obtain⟨_,z,_⟩:=hit;exact Heap.lt_size z
  have kk:∀b o,b∉[e,it]->s.heap.get? b=some o->h''.get? b=some o:=fun b o hb q=>by
   have h1:b≠e:=fun z=>hb (by simp[z])
   have h2:b≠it:=fun z=>hb (by simp[z])
   exact(L7.2 b h1).trans (hk b o h1 h2 q)
  have Zm:h''.get? s.heap.objs.size=some {cls:=.type "tuple",data:=.seq #[.int i s.toks,u]}:=(L7.2 _ (ne_of_gt hlt)).trans hT
  have hn:H s.heap.objs.size=none:=I.hok.fresh (Nat.le_refl _)
  refine⟨.ref s.heap.objs.size,upd H s.heap.objs.size (.tup [.int (i:Nat),x]),?_,rfl,⟨_,x,hn,rfl,rfl,fun ys hy=>by rw[I.qI hy hq];exact hx⟩,⟨⟨u,by simpa using VE⟩,VD.at fun o q=>(L7.2 it hei.symm).trans q⟩,fun b hb=>?_⟩
  ·refine L6 (s:=s) I hf kk (fun b hb u hu=>?_) (Nat.le_refl _) ⟨(by show 2<=sizeLine;decide),[.int i s.toks,u],.cons ⟨_,rfl⟩ (.cons ru .nil),⟨_,Zm,rfl,_,rfl⟩⟩
   rcases mem_cons.mp hb with rfl|hb
   ·exact⟨_,VE⟩
   ·have z:b=it:=by simpa using hb
    subst z
    obtain⟨o,q,_⟩:=VD
    exact⟨o,(L7.2 b hei.symm).trans q⟩
  ·rw[ai]
   ·exact(hf b hb).1
   ·rcases mem_cons.mp hb with rfl|hb
    ·exact ne_of_lt hlt
    ·have z:b=it:=by simpa using hb
     subst z
     exact ne_of_lt Zl
 done:=by
  intro X hP hw hK hc i pins s σ H E I hf st hg
  subst hP hw hK
  obtain⟨xs,hq,hx⟩:=hg
  obtain⟨its,rv,p,hz⟩:=I.list hq
  obtain⟨⟨old,he⟩,hit⟩:=st
  have hl:=rv.length
  refine wpAny_pyNext_enum_end (I.ok.hd hc) he hit p.isList (by simp;omega) fun h' eb=>⟨rfl,?_⟩
  exact Ah (fp:=[e,it]) (t':=s.toks) I hf fun b o hb q=>eb b o (fun z=>hb (by simp[z])) q
 self:=fun _ _ _ _ _ st h=>by
  obtain⟨⟨old,he⟩,_⟩:=st
  exact wpAny_pyIter_enum he h
def Itv(K:PySem.W.Frag)(l:Addr)(n:Nat):It:=
 ⟨fun i H=>i<n/\∃xs x,cX K H l xs/\xs.length=n/\xs[n-1-i]?=some x,fun i H x H'=>H'=H/\∀xs,cX K H l xs->xs[n-1-i]?=some x,fun i H=>i=n/\∃xs,cX K H l xs⟩
theorem HG{P:Program}{w:World}{K:PySem.W.Frag}{tg:Expr}(l it:Addr)(n:Nat):Turn P w K tg (Itv K l n) [it] it (fun i h=>h.IsRevIter it l ((n:Int)-1-(i:Nat))) where
 mem:=by simp
 obj:=fun i h st b hb=>by
  have z:b=it:=by simpa using hb
  subst z
  obtain⟨o,e,c,d⟩:=st
  exact⟨o,e,fun v z=>by rw[d]at z;cases z⟩
 keep:=fun i h h' st k=>st.at fun o e=>k it (by simp) o e
 item:=by
  intro X hP hw hK hc i pins s σ H E I hf st hg
  subst hP hw hK
  obtain⟨hin,xs,x,hq,hl,hx⟩:=hg
  obtain⟨its,rv,p,hz⟩:=I.list hq
  obtain⟨u,hu,ru⟩:=rv.get hx
  have e1:(n:Int)-1-(i:Nat)=((n-1-i:Nat):Int):=by omega
  rw[e1]at st
  refine wpAny_pyNext_rev_item st p.isList (x:=u) (by simpa using hu) fun h' Lu sb=>?_
  have I1:Inv X pins σ H {s with heap:=h'}:=Ah (fp:=[it]) (t':=s.toks) I hf fun b o hb q=>(sb.2 b (fun z=>hb (by simp[z]))).trans q
  obtain⟨o,e,c,d⟩:=id Lu
  have e2:((n-1-i:Nat):Int)-1=(n:Int)-1-((i+1:Nat):Int):=by omega
  rw[e2]at Lu
  exact⟨u,rfl,G5 (s:={s with heap:=h'}) e c d (by decide) ⟨x,H,I1,ru,⟨rfl,fun ys hy=>by rw[I.qI hy hq];exact hx⟩,Lu,fun b hb=>(hf b hb).1⟩⟩
 done:=by
  intro X hP hw hK hc i pins s σ H E I hf st hg
  subst hP hw hK
  obtain⟨rfl,xs,hq⟩:=hg
  have e1:(i:Int)-1-(i:Nat)= -1:=by omega
  rw[e1]at st
  exact wpAny_pyNext_rev_end (I.ok.hd hc) st fun h' eb=>⟨rfl,Ah (fp:=[it]) (t':=s.toks) I hf fun b o hb q=>eb b o (fun z=>hb (by simp[z])) q⟩
 self:=fun _ _ _ _ _ st h=>wpAny_pyIter_revIter st h
section
variable{X:Cx}{E:Str->Hp->Prop}{pos:Pos}
def dO(xs:List D):List D:=xs.zipIdx.map fun p=>.tup [.int (p.2:Nat),p.1]
theorem sX{xs:List D}{i:Nat}{d:D}(h:(dO xs)[i]?=some d):∃x,xs[i]?=some x/\d=.tup [.int (i:Nat),x]:=by
 unfold dO at h
 rw[getElem?_map,List.getElem?_zipIdx]at h
 cases q:xs[i]? with
 |none=>rw[q]at h;cases h
 |some x=>
  rw[q]at h
  refine⟨x,rfl,?_⟩
  have h':some (D.tup [.int ((0+i:Nat):Int),x])=some d:=h
  rw[Nat.zero_add]at h'
  exact(Option.some.inj h').symm
theorem iE{a:Expr}{elts:List Expr}{kk:Nat}{pp p:Pos}{f:DE->R D}(hm:X.mg "enumerate"=none)(ha:PE X a (tD X.K E f))(hg:Gl X "enumerate":=by rfl)(hs:starEach [a] X.env=[(false,eval a X.env)]:=by rfl):
  PI X (.Tuple elts kk pp) (.Call (.Name "enumerate" p) [a] [] pos) (tI X.K E fun env=>(f env).bind fun d=>(vR d).bind fun xs=>.ok (dO xs)):=by
 intro pins s σ H Rr I h
 obtain⟨g,env,os,r,m⟩:=h
 have Zn:PA X [a] (Hs X.K E fun env=>(f env).bind fun x=>(R.ok []).bind fun xs=>.ok (x::xs)):=az ha bC hs
 refine Call_ (iD I hg hm boot_enumerate (PyProof.Rows.callWith_type1 (cj (Zn pos pins s σ H (fun vs H1=>aM H H1/\∃d,f env=.ok d/\∃v,vs=[v]/\Is X.K (g.P os) H1 d v/\Good E g.H₀ ((vR d).bind fun xs=>.ok (dO xs)) (fun xs=>∀J H1,aM H H1->Yl X.K (g.P os) J H1 xs->Rr J H1)) I
  ⟨g,env,os,r,?_⟩) fun us s1 ⟨vs,H1,I1,r1,q1⟩=>?_) hs rfl))
 ·exact Good.C8 m.bind (fun d e q=>by
   show Good E g.H₀ (R.ok [d]) _
   exact fun vs H' s' i'=>by
    obtain⟨v,rfl,iv⟩:=IsL.y0 i'
    exact⟨s',d,e,v,rfl,iv,q⟩)
 ·obtain⟨Zo,d,_,v,rfl,iv,q⟩:=q1
  cases d with
  |lst xs=>
   obtain⟨l,ws,rfl,h1,h2⟩:=iv
   obtain⟨u,rfl,ru⟩:=vals1 r1
   cases ru
   obtain⟨its,rv,pl,hz⟩:=I1.list h1.sq
   refine call_enumerate_list pl.isList fun h' he hit hsz hk=>?_
   refine wpAny_pyIter_enum he ?_
   have I2:Inv X pins σ H1 {s1 with heap:=h'}:=I1.kept (t':=s1.toks) hk
   have f1:∀b∈[s1.heap.objs.size+1,s1.heap.objs.size],nH X pins H1 b:=fun b hb=>by
    have K7:s1.heap.objs.size<=b:=by
     simp only [mem_cons,not_mem_nil,or_false]at hb
     rcases hb with rfl|rfl<;>omega
    exact I1.Fd K7 (I1.hok.fresh K7)
   refine⟨s1.heap.objs.size+1,[s1.heap.objs.size+1,s1.heap.objs.size],_,Ite X.K l,H1,rfl,I2,FG l _ _ (ne_of_gt (lt_succ_self _)),⟨⟨_,he⟩,hit⟩,f1,?_⟩
   refine(show∀J H1,aM H H1->Yl X.K (g.P os) J H1 (dO xs)->Rr J H1 from q) _ H1 Zo fun i H' P' ex=>⟨fun d hd=>?_,fun hi=>?_⟩
   ·obtain⟨x,hx,rfl⟩:=sX hd
    obtain⟨y,hy,iy⟩:=(IsL.ext ex _ _ h2).get hx
    refine⟨⟨ws,y,(h1.ext ex).sq,hy⟩,fun z H2 Zp=>?_⟩
    obtain⟨t,y',ht,rfl,rfl,hall⟩:=Zp
    have e2:=hall ws (h1.ext ex).sq
    rw[hy]at e2
    cases e2
    refine⟨aO ht _,t,_,rfl,.inl ⟨.inr ht,.inl ar⟩,IsL.cons rfl (IsL.one (Is.ext ⟨fun _ _ p _=>.inl p,fun a o _ e=>aO ht _ a o e⟩ _ _ iy))⟩
   ·refine⟨ws,(h1.ext ex).sq,?_⟩
    rw[IsL.length h2]
    refine le_of_eq ?_
    have:(dO xs).length=xs.length:=by simp[dO]
    omega
  |non=>exact q.elim
  |bl _=>exact q.elim
  |int _=>exact q.elim
  |str _=>exact q.elim
  |exc _=>exact q.elim
  |fn _=>exact q.elim
  |tup _=>exact q.elim
theorem uj:bootBuiltins "reversed"=some (.type "reversed"):=by decide +kernel
theorem iV{a tg:Expr}{p:Pos}{f:DE->R D}(hm:X.mg "reversed"=none)(ha:PE X a (tD X.K E f))(hg:Gl X "reversed":=by rfl)(hs:starEach [a] X.env=[(false,eval a X.env)]:=by rfl):
  PI X tg (.Call (.Name "reversed" p) [a] [] pos) (tI X.K E fun env=>(f env).bind fun d=>(vR d).bind fun xs=>.ok xs.reverse):=by
 intro pins s σ H Rr I h
 obtain⟨g,env,os,r,m⟩:=h
 have Zn:PA X [a] (Hs X.K E fun env=>(f env).bind fun x=>(R.ok []).bind fun xs=>.ok (x::xs)):=az ha bC hs
 refine Call_ (iD I hg hm uj (PyProof.Rows.callWith_type1 (cj (Zn pos pins s σ H (fun vs H1=>aM H H1/\∃d,f env=.ok d/\∃v,vs=[v]/\Is X.K (g.P os) H1 d v/\Good E g.H₀ ((vR d).bind fun xs=>.ok xs.reverse) (fun xs=>∀J H1,aM H H1->Yl X.K (g.P os) J H1 xs->Rr J H1)) I
  ⟨g,env,os,r,?_⟩) fun us s1 ⟨vs,H1,I1,r1,q1⟩=>?_) hs rfl))
 ·exact Good.C8 m.bind (fun d e q=>by
   show Good E g.H₀ (R.ok [d]) _
   exact fun vs H' s' i'=>by
    obtain⟨v,rfl,iv⟩:=IsL.y0 i'
    exact⟨s',d,e,v,rfl,iv,q⟩)
 ·obtain⟨Zo,d,_,v,rfl,iv,q⟩:=q1
  cases d with
  |lst xs=>
   obtain⟨l,ws,rfl,h1,h2⟩:=iv
   obtain⟨u,rfl,ru⟩:=vals1 r1
   cases ru
   obtain⟨its,rv,pl,hz⟩:=I1.list h1.sq
   have hl:=rv.length
   have hl2:ws.length=xs.length:=IsL.length h2
   refine call_reversed_list pl.isList ?_
   have e0:((its.toArray.size:Nat):Int)-1=(xs.length:Int)-1:=by rw[size_toArray];omega
   rw[e0]
   have hit:({s1 with heap:=s1.heap.push (PySem.revObj l ((xs.length:Int)-1))}:Shared).heap.IsRevIter s1.heap.objs.size l ((xs.length:Int)-1):=⟨_,Heap.get?_push_size _ rfl,rfl,rfl⟩
   refine wpAny_pyIter_revIter hit ?_
   have I2:Inv X pins σ H1 {s1 with heap:=s1.heap.push (PySem.revObj l ((xs.length:Int)-1))}:=I1.kept (t':=s1.toks) fun b o e=>Heap.get?_push_of_some _ e
   have f1:∀b∈[s1.heap.objs.size],nH X pins H1 b:=fun b hb=>by
    have z:b=s1.heap.objs.size:=by simpa using hb
    subst z
    exact I1.Fd (Nat.le_refl _) (I1.hok.fresh (Nat.le_refl _))
   refine⟨_,[s1.heap.objs.size],_,Itv X.K l xs.length,H1,rfl,I2,HG l _ xs.length,?_,f1,?_⟩
   ·have e1:(xs.length:Int)-1-((0:Nat):Int)=(xs.length:Int)-1:=by omega
    rw[e1];exact hit
   refine(show∀J H1,aM H H1->Yl X.K (g.P os) J H1 xs.reverse->Rr J H1 from q) _ H1 Zo fun i H' P' ex=>⟨fun d hd=>?_,fun hi=>?_⟩
   ·have hi:i<xs.length:=by
     have:=(List.getElem?_eq_some_iff.mp hd).1
     simpa using this
    rw[getElem?_reverse hi]at hd
    obtain⟨y,hy,iy⟩:=(IsL.ext ex _ _ h2).get hd
    refine⟨⟨hi,ws,y,(h1.ext ex).sq,hl2,hy⟩,fun z H2 Zp=>?_⟩
    obtain⟨rfl,hall⟩:=Zp
    have e2:=hall ws (h1.ext ex).sq
    rw[hy]at e2
    cases e2
    exact⟨aM.refl _,Is.ext ⟨fun _ _ p _=>.inl p,fun _ _ _ e=>e⟩ _ _ iy⟩
   ·exact⟨by simpa using hi.symm,ws,(h1.ext ex).sq⟩
  |non=>exact q.elim
  |bl _=>exact q.elim
  |int _=>exact q.elim
  |str _=>exact q.elim
  |exc _=>exact q.elim
  |fn _=>exact q.elim
  |tup _=>exact q.elim
end
def y6:D->String
 |.non=>"NoneType"
 |.bl _=>"bool"
 |.int _=>"int"
 |.str _=>"str"
 |.lst _=>"list"
 |.tup _=>"tuple"
 |.exc _=>"tuple"
 |.fn _=>"tuple"
def jQ(t T:String):Bool:=t==T||(t=="bool"&&T=="int")
def Ak(t T:String):Option Bool:=if((Value.type t)==(Value.type T))=true then some true else if PySem.W.kitMeta T=true then(fastBuiltinMro t).map (·.contains (.type T))else none
theorem L8(K:PySem.W.Frag)(t T:String):kitOne K (.type t) (.type T)=Ak t T:=rfl
def B0(T:String):Prop:=∀d:D,Ak (y6 d) T=some (jQ (y6 d) T)
theorem ve{T:String}(h:Ak "NoneType" T=some (jQ "NoneType" T)/\Ak "bool" T=some (jQ "bool" T)/\Ak "int" T=some (jQ "int" T)/\Ak "str" T=some (jQ "str" T)/\Ak "list" T=some (jQ "list" T)/\Ak "tuple" T=some (jQ "tuple" T)):B0 T:=fun d=>by
 cases d with
 |non=>exact h.1
 |bl _=>exact h.2.1
 |int _=>exact h.2.2.1
 |str _=>exact h.2.2.2.1
 |lst _=>exact h.2.2.2.2.1
 |tup _=>exact h.2.2.2.2.2
 |exc _=>exact h.2.2.2.2.2
 |fn _=>exact h.2.2.2.2.2
theorem HH:B0 "int":=ve (by decide +kernel)
theorem Dm:B0 "bool":=ve (by decide +kernel)
theorem Dn:B0 "list":=ve (by decide +kernel)
theorem HJ:B0 "tuple":=ve (by decide +kernel)
section
variable{X:Cx}{E:Str->Hp->Prop}{pos:Pos}
theorem Q1{pins:List (Addr×Obj)}{σ:St}{H:Hp}{s:Shared}{A:Around}{E:Value->Shared->Prop}{Q:Value->Shared->Prop}{d:D}{x:V}{u:Value}{T:String}{P:Addr->Prop}(I:Inv X pins σ H s)(rx:RelV x u)(hd:Is X.K P H d x)(hne:∀n,d≠.exc n/\d≠.fn n)(kt:B0 T)(h:∀tk,Q (.bool (jQ (y6 d) T)) {s with toks:=tk}):
  wpAny (model X.prog X.w) A (call (.builtin "isinstance") [u,.type T]) Q E s:=by
 have e:kitOne X.K (.type (y6 d)) (.type T)=some (jQ (y6 d) T):=(L8 _ _ _).trans (kt d)
 cases d with
 |non=>cases hd;exact o6 I rx .non e h
 |bl b=>cases hd;exact o6 I rx (.bl b) e h
 |int b=>cases hd;exact o6 I rx (.int b) e h
 |str b=>cases hd;exact o6 I rx (.str b) e h
 |lst ds=>
  obtain⟨a,vs,rfl,h1,h2⟩:=hd
  cases rx
  obtain⟨its,rv,⟨o,n,e1,c1,d1,t1⟩,hz⟩:=I.list h1.sq
  exact kia_one kitx_list I.sF ⟨o,e1,c1⟩ e (fun z=>nomatch z) h
 |tup ds=>
  obtain⟨a,vs,rfl,h1,h2⟩:=hd
  cases rx
  obtain⟨its,rv,⟨o,e1,c1,d1⟩,hz⟩:=I.tuple h1.sq
  exact kia_one kitx_tuple I.sF ⟨o,e1,c1⟩ e (fun z=>nomatch z) h
 |exc n=>exact((hne n).1 rfl).elim
 |fn n=>exact((hne n).2 rfl).elim
def B1(T:String)(d:D):R D:=match d with
 |.exc _=>.bad
 |.fn _=>.bad
 |d=>.ok (.bl (jQ (y6 d) T))
theorem Q2{T:String}{d:D}(h:∀n,d≠.exc n/\d≠.fn n):B1 T d=.ok (.bl (jQ (y6 d) T)):=by
 cases d with
 |exc n=>exact((h n).1 rfl).elim
 |fn n=>exact((h n).2 rfl).elim
 |_=>rfl
theorem xO:bootBuiltins "isinstance"=some (.builtin "isinstance"):=by decide +kernel
theorem HK:bootBuiltins "int"=some (.type "int"):=by decide +kernel
theorem Dq:bootBuiltins "bool"=some (.type "bool"):=by decide +kernel
theorem mz:bootBuiltins "list"=some (.type "list"):=by decide +kernel
theorem Al:bootBuiltins "tuple"=some (.type "tuple"):=by decide +kernel
theorem dJ:bootBuiltins "len"=some (.builtin "len"):=by decide +kernel
theorem sY:bootBuiltins "abs"=some (.builtin "abs"):=by decide +kernel
theorem Q3:bootBuiltins "max"=some (.builtin "max"):=by decide +kernel
theorem B3{T:String}{x:Str}{p p2:Pos}{a:Expr}{f:DE->R D}(kt:B0 T)(hv:bootBuiltins x=some (.type T))(hm:X.mg "isinstance"=none)(hmt:X.mg x=none)(ha:PE X a (tB X.K E f))(hg:Gl X "isinstance":=by rfl)(hgt:Gl X x:=by rfl)
  (hn:x≠"__name__":=by decide)(hdb:(x==("__debug__":Str))=false:=by decide)
  (hs:starEach [a,.Name x p2] X.env=(false,eval a X.env)::starEach [.Name x p2] X.env:=by rfl)(hpl:(backTo pos (starEach [.Name x p2] X.env)).any (·.1)=false:=by rfl)(hs2:starEach [.Name x p2] X.env=(false,eval (.Name x p2) X.env)::starEach [] X.env:=by rfl):
  PE X (.Call (.Name "isinstance" p) [a,.Name x p2] [] pos) (tD X.K E fun env=>(f env).bind (B1 T)):=by
 have hty:PE X (.Name x p2) (tC (.ty T)):=Lq hgt hmt hv rfl hn hdb
 refine imp (i7 (r:=fun xs H Q=>∃d v,xs=[v,.ty T]/\(∀n,d≠.exc n/\d≠.fn n)/\Is X.K Tr H d v/\Q (.bl (jQ (y6 d) T)) H) ?_ hg hm xO (aB ha (aB hty aN hs2) hs) (by decide) (by decide) hs hpl) fun σ H Q ⟨g,env,os,r,m⟩=>⟨g,env,os,r,m.bind.mono fun d _ q v H' s i=>?_⟩
 ·intro pins s σ H xs us Q I r h
  obtain⟨d,v,rfl,hne,hd,q⟩:=h
  obtain⟨u,w,rfl,ru,nQ⟩:=vals2 r
  have e:w=.type T:=nQ
  subst e
  exact Q1 I ru hd hne kt fun tk=>⟨.bl _,H,I.tok _,rfl,q⟩
 ·by_cases hne:∀n,d≠.exc n/\d≠.fn n
  ·rw[Q2 hne]at q
   exact⟨d,v,rfl,hne,i,q _ H' s rfl⟩
  ·cases d with
   |exc n=>exact q.elim
   |fn n=>exact q.elim
   |_=>exact(hne fun n=>⟨fun z=>(nomatch z),fun z=>(nomatch z)⟩).elim
def bools:List D->Option (List Bool)
 |[]=>some []
 |.bl b::r=>(bools r).map (b::·)
 |_::_=>none
end
def T8:D->D->Option Bool
 |.non,.non=>some true
 |.bl a,.bl b=>some (a==b)
 |.int a,.int b=>some (a==b)
 |.str a,.str b=>some (a==b)
 |.bl a,.int b=>some ((if a then 1 else 0)==b)
 |.int a,.bl b=>some (a==(if b then 1 else 0))
 |.non,.bl _=>some false
 |.non,.int _=>some false
 |.non,.str _=>some false
 |.bl _,.non=>some false
 |.bl _,.str _=>some false
 |.int _,.non=>some false
 |.int _,.str _=>some false
 |.str _,.non=>some false
 |.str _,.bl _=>some false
 |.str _,.int _=>some false
 |_,_=>none
def nK(f:D->D->Option Bool):List D->List D->Option Bool
 |x::xs,y::ys=>(f x y).bind fun b=>(nK f xs ys).map (b&&·)
 |_,_=>some true
def pe:Nat->D->D->Option Bool
 |0,x,y=>T8 x y
 |n+1,x,y=>match x,y with
  |.lst xs,.lst ys=>if xs.length=ys.length then nK (pe n) xs ys else some false
  |.tup xs,.tup ys=>(nK (pe n) xs ys).map (·&&xs.length==ys.length)
  |x,y=>T8 x y
def Q4(f:D->D->Option Bool)(xs ys:List D)(j:Nat):Bool:=((xs[j]?).bind fun x=>(ys[j]?).bind fun y=>f x y).getD false
theorem vX(n:Nat)(e:Nat->Bool):(range (n+1)).all e=(e 0&&(range n).all fun j=>e (j+1)):=by
 rw[List.range_succ_eq_map,List.all_cons,List.all_map]
 rfl
theorem sZ{f:D->D->Option Bool}:∀{xs ys:List D}{b:Bool},nK f xs ys=some b->(∀(j:Nat)(x y:D),xs[j]?=some x->ys[j]?=some y->f x y=some (Q4 f xs ys j))/\b=(range (min xs.length ys.length)).all (Q4 f xs ys)
 |[],ys,b,h=>by
  have h':some true=some b:=by cases ys<;>exact h
  cases h'
  exact⟨fun j x y e=>by simp at e,by simp⟩
 |x::xs,[],b,h=>by
  cases h
  exact⟨fun j x y _ e=>by simp at e,by simp⟩
 |x::xs,y::ys,b,h=>by
  unfold nK at h
  cases e1:f x y with
  |none=>rw[e1]at h;cases h
  |some c=>
   cases e2:nK f xs ys with
   |none=>rw[e1,e2]at h;cases h
   |some d=>
    rw[e1,e2]at h
    have h':(c&&d)=b:=Option.some.inj h
    obtain⟨q1,q2⟩:=sZ e2
    refine⟨fun j x' y' h1 h2=>?_,?_⟩
    ·cases j with
     |zero=>
      simp at h1 h2
      subst h1 h2
      show f x y=some (((some x).bind fun x=>(some y).bind fun y=>f x y).getD false)
      simp[e1]
     |succ j=>exact q1 j x' y' (by simpa using h1) (by simpa using h2)
    ·have e3:min (x::xs).length (y::ys).length=min xs.length ys.length+1:=by simp[Nat.succ_min_succ]
     rw[e3,vX,<-h',q2]
     have e4:Q4 f (x::xs) (y::ys) 0=c:=by
      show(((some x).bind fun x=>(some y).bind fun y=>f x y).getD false)=c
      simp[e1]
     rw[e4];rfl
section
variable{X:Cx}{pins:List (Addr×Obj)}{σ:St}{H:Hp}{s:Shared}
theorem HL{A:Around}{P:Addr->Prop}{x y:D}{v w:V}{u u':Value}{b:Bool}(hx:Is X.K P H x v)(hy:Is X.K P H y w)(rv:RelV v u)(nQ:RelV w u')(e:T8 x y=some b):SeqAt.EqAt A s u u' b/\SeqAt.RcAt A s u u' b/\SeqAt.RcNeAt A s u u' (!b):=by
 unfold T8 at e
 split at e<;>first|cases e|skip
 ·cases hx;cases hy;cases rv;cases nQ;exact⟨.same _,.none_none,.none_none⟩
 ·cases hx;cases hy;cases rv;cases nQ;exact⟨.bool_bool _ _,.bool_bool _ _,.bool_bool _ _⟩
 ·cases hx;cases hy;obtain⟨t,rfl⟩:=rv;obtain⟨t',rfl⟩:=nQ;exact⟨.int_int _ _ _ _,.int_int _ _ _ _,.int_int _ _ _ _⟩
 ·cases hx;cases hy;obtain⟨t,rfl⟩:=rv;obtain⟨t',rfl⟩:=nQ;exact⟨.str_str _ _ _ _,.str_str _ _ _ _,.str_str _ _ _ _⟩
 ·cases hx;cases hy;cases rv;obtain⟨t',rfl⟩:=nQ;exact⟨.bool_int _ _ _,.bool_int _ _ _,.bool_int _ _ _⟩
 ·cases hx;cases hy;obtain⟨t,rfl⟩:=rv;cases nQ;exact⟨.int_bool _ _ _,.int_bool _ _ _,.int_bool _ _ _⟩
 ·cases hx;cases hy;cases rv;cases nQ;exact⟨.none_bool _,.none_bool _,.none_bool _⟩
 ·cases hx;cases hy;cases rv;obtain⟨t',rfl⟩:=nQ;exact⟨.none_int _ _,.none_int _ _,.none_int _ _⟩
 ·cases hx;cases hy;cases rv;obtain⟨t',rfl⟩:=nQ;exact⟨.none_str _ _,.none_str _ _,.none_str _ _⟩
 ·cases hx;cases hy;cases rv;cases nQ;exact⟨.bool_none _,.bool_none _,.bool_none _⟩
 ·cases hx;cases hy;cases rv;obtain⟨t',rfl⟩:=nQ;exact⟨.bool_str _ _ _,.bool_str _ _ _,.bool_str _ _ _⟩
 ·cases hx;cases hy;obtain⟨t,rfl⟩:=rv;cases nQ;exact⟨.int_none _ _,.int_none _ _,.int_none _ _⟩
 ·cases hx;cases hy;obtain⟨t,rfl⟩:=rv;obtain⟨t',rfl⟩:=nQ;exact⟨.int_str _ _ _ _,.int_str _ _ _ _,.int_str _ _ _ _⟩
 ·cases hx;cases hy;obtain⟨t,rfl⟩:=rv;cases nQ;exact⟨.str_none _ _,.str_none _ _,.str_none _ _⟩
 ·cases hx;cases hy;obtain⟨t,rfl⟩:=rv;cases nQ;exact⟨.str_bool _ _ _,.str_bool _ _ _,.str_bool _ _ _⟩
 ·cases hx;cases hy;obtain⟨t,rfl⟩:=rv;obtain⟨t',rfl⟩:=nQ;exact⟨.str_int _ _ _ _,.str_int _ _ _ _,.str_int _ _ _ _⟩
theorem Am{P:Addr->Prop}{x y:D}{v:V}{b:Bool}(hx:Is X.K P H x v)(hy:Is X.K P H y v)(e:T8 x y=some b):b=true:=by
 unfold T8 at e
 split at e<;>first|cases e|skip
 all_goals cases hx
 all_goals cases hy
 all_goals simp
theorem vY{P:Addr->Prop}{f:D->D->Option Bool}:∀{xs ys:List D}{vs:List V}{b:Bool},(∀x y v b,Is X.K P H x v->Is X.K P H y v->f x y=some b->b=true)->IsL X.K P H xs vs->IsL X.K P H ys vs->nK f xs ys=some b->b=true/\xs.length=ys.length
 |[],ys,vs,b,_,hx,hy,e=>by
  have e':vs=[]:=hx
  subst e'
  have:=IsL.length hy
  cases ys with
  |nil=>cases e;exact⟨rfl,rfl⟩
  |cons _ _=>simp at this
 |x::xs,[],vs,b,_,hx,hy,e=>by
  have:=IsL.length hx
  have e':vs=[]:=hy
  subst e'
  simp at this
 |x::xs,y::ys,vs,b,hf,⟨v,r,e1,p1,q1⟩,⟨v',r',e2,p2,q2⟩,e=>by
  subst e1
  cases e2
  unfold nK at e
  cases h1:f x y with
  |none=>rw[h1]at e;cases e
  |some c=>
   cases h2:nK f xs ys with
   |none=>rw[h1,h2]at e;cases e
   |some d=>
    rw[h1,h2]at e
    have e':(c&&d)=b:=Option.some.inj e
    obtain⟨z1,z2⟩:=vY hf q1 q2 h2
    have z3:=hf x y v c p1 p2 h1
    subst z1 z3 e'
    exact⟨rfl,by simp[z2]⟩
theorem qV(I:Inv X pins σ H s){P:Addr->Prop}:∀(n:Nat)(x y:D)(v:V)(b:Bool),Is X.K P H x v->Is X.K P H y v->pe n x y=some b->b=true
 |0,x,y,v,b,hx,hy,e=>Am hx hy e
 |n+1,x,y,v,b,hx,hy,e=>by
  unfold pe at e
  split at e
  ·rename_i xs ys
   obtain⟨a,vs,rfl,h1,h2⟩:=hx
   obtain⟨a',C9,ea,h3,h4⟩:=hy
   cases ea
   have ev:=I.qI h1.sq h3.sq
   subst ev
   split at e
   ·exact(vY (qV I n) h2 h4 e).1
   ·rename_i c
    exact absurd ((IsL.length h2).symm.trans (IsL.length h4)) c
  ·rename_i xs ys
   obtain⟨a,vs,rfl,h1,h2⟩:=hx
   obtain⟨a',C9,ea,h3,h4⟩:=hy
   cases ea
   have ev:=I.Fc h1.sq h3.sq
   subst ev
   cases ez:nK (pe n) xs ys with
   |none=>rw[ez]at e;cases e
   |some c=>
    rw[ez]at e
    obtain⟨z1,z2⟩:=vY (qV I n) h2 h4 ez
    subst z1
    have e':(true&&(xs.length==ys.length))=b:=Option.some.inj e
    rw[<-e',z2];simp
  ·exact Am hx hy e
theorem in1_units(A:Around):A.in1.units=A.units+1:=rfl
theorem Dr(I:Inv X pins σ H s){P:Addr->Prop}:∀(n:Nat)(A:Around)(x y:D)(v w:V)(u u':Value)(b:Bool),A.units+n<cLine->Is X.K P H x v->Is X.K P H y w->RelV v u->RelV w u'->pe n x y=some b->SeqAt.EqAt A s u u' b/\SeqAt.RcAt A s u u' b/\SeqAt.RcNeAt A s u u' (!b)
 |0,A,x,y,v,w,u,u',b,hu,hx,hy,rv,nQ,e=>HL hx hy rv nQ e
 |n+1,A,x,y,v,w,u,u',b,hu,hx,hy,rv,nQ,e=>by
  have e0:=e
  unfold pe at e
  have hu1:A.in1.units+n<cLine:=by rw[in1_units];omega
  have T9:A.units<cLine:=by omega
  split at e
  ·rename_i xs ys
   have Zq:=hx
   have Zs:=hy
   obtain⟨a,vs,rfl,h1,h2⟩:=hx
   obtain⟨a',C9,rfl,h3,h4⟩:=hy
   cases rv
   cases nQ
   obtain⟨its,VF,pl,hz⟩:=I.list h1.sq
   obtain⟨its',HM,Q5,Xv⟩:=I.list h3.sq
   have l1:=VF.length
   have l2:=HM.length
   have l3:vs.length=xs.length:=IsL.length h2
   have l4:C9.length=ys.length:=IsL.length h4
   have main:SeqAt.RcAt A s (.ref a) (.ref a') b/\SeqAt.RcNeAt A s (.ref a) (.ref a') (!b):=by
    split at e
    ·rename_i c
     obtain⟨q1,q2⟩:=sZ e
     have hsz:its.toArray.size=its'.toArray.size:=by simp;omega
     have Zt:min xs.length ys.length=its.toArray.size:=by simp;omega
     rw[Zt]at q2
     subst q2
     have he:∀j (g1:j<its.toArray.size)(g2:j<its'.toArray.size),SeqAt.EqAt A.in1 s its.toArray[j] its'.toArray[j] (Q4 (pe n) xs ys j):=fun j g1 g2=>by
      have j1:j<xs.length:=by simp at g1;omega
      have j2:j<ys.length:=by simp at g2;omega
      have f:=q1 j _ _ (getElem?_eq_getElem j1) (getElem?_eq_getElem j2)
      obtain⟨v1,hv1,K8⟩:=IsL.get h2 (getElem?_eq_getElem j1)
      obtain⟨v2,hv2,K9⟩:=IsL.get h4 (getElem?_eq_getElem j2)
      obtain⟨u1,Q6,Zu⟩:=VF.get hv1
      obtain⟨u2,Q7,Zv⟩:=HM.get hv2
      have E1:its.toArray[j]=u1:=by
       have:=List.getElem?_eq_some_iff.mp Q6
       obtain⟨_,h⟩:=this
       simpa using h
      have E2:its'.toArray[j]=u2:=by
       have:=List.getElem?_eq_some_iff.mp Q7
       obtain⟨_,h⟩:=this
       simpa using h
      rw[E1,E2]
      exact(Dr I n A.in1 _ _ _ _ _ _ _ hu1 K8 K9 Zu Zv f).1
     exact⟨SeqAt.RcAt.lists pl.isList Q5.isList hsz T9 he,SeqAt.RcNeAt.lists pl.isList Q5.isList hsz T9 he⟩
    ·rename_i c
     cases e
     have hsz:(its.toArray.size !=its'.toArray.size)=true:=by simp;omega
     exact⟨SeqAt.RcAt.lists_lengths pl.isList Q5.isList hsz T9,SeqAt.RcNeAt.lists_lengths pl.isList Q5.isList hsz T9⟩
   refine⟨?_,main⟩
   by_cases ha:a=a'
   ·subst ha
    have:=qV I (n+1) _ _ _ _ Zq Zs e0
    subst this
    exact .same _
   ·exact .of_refs ha main.1
  ·rename_i xs ys
   have Zq:=hx
   have Zs:=hy
   obtain⟨a,vs,rfl,h1,h2⟩:=hx
   obtain⟨a',C9,rfl,h3,h4⟩:=hy
   cases rv
   cases nQ
   obtain⟨its,VF,pl,hz⟩:=I.tuple h1.sq
   obtain⟨its',HM,Q5,Xv⟩:=I.tuple h3.sq
   have l1:=VF.length
   have l2:=HM.length
   have l3:vs.length=xs.length:=IsL.length h2
   have l4:C9.length=ys.length:=IsL.length h4
   have main:SeqAt.RcAt A s (.ref a) (.ref a') b/\SeqAt.RcNeAt A s (.ref a) (.ref a') (!b):=by
    cases ez:nK (pe n) xs ys with
    |none=>rw[ez]at e;cases e
    |some c=>
     rw[ez]at e
     obtain⟨q1,q2⟩:=sZ ez
     have s1:xs.length=its.toArray.size:=by simp;omega
     have s2:ys.length=its'.toArray.size:=by simp;omega
     have e':(c&&(xs.length==ys.length))=b:=Option.some.inj e
     rw[q2]at e'
     have he:∀j (g1:j<its.toArray.size)(g2:j<its'.toArray.size),SeqAt.EqAt A.in1 s its.toArray[j] its'.toArray[j] (Q4 (pe n) xs ys j):=fun j g1 g2=>by
      have j1:j<xs.length:=by simp at g1;omega
      have j2:j<ys.length:=by simp at g2;omega
      have f:=q1 j _ _ (getElem?_eq_getElem j1) (getElem?_eq_getElem j2)
      obtain⟨v1,hv1,K8⟩:=IsL.get h2 (getElem?_eq_getElem j1)
      obtain⟨v2,hv2,K9⟩:=IsL.get h4 (getElem?_eq_getElem j2)
      obtain⟨u1,Q6,Zu⟩:=VF.get hv1
      obtain⟨u2,Q7,Zv⟩:=HM.get hv2
      have E1:its.toArray[j]=u1:=by
       have:=List.getElem?_eq_some_iff.mp Q6
       obtain⟨_,h⟩:=this
       simpa using h
      have E2:its'.toArray[j]=u2:=by
       have:=List.getElem?_eq_some_iff.mp Q7
       obtain⟨_,h⟩:=this
       simpa using h
      rw[E1,E2]
      exact(Dr I n A.in1 _ _ _ _ _ _ _ hu1 K8 K9 Zu Zv f).1
     subst e'
     have R1:=SeqAt.RcAt.tuples (A:=A) (e:=Q4 (pe n) xs ys) pl Q5 T9 he
     have R2:=SeqAt.RcNeAt.tuples (A:=A) (e:=Q4 (pe n) xs ys) pl Q5 T9 he
     rw[<-s1,<-s2]at R1 R2
     exact⟨R1,R2⟩
   refine⟨?_,main⟩
   by_cases ha:a=a'
   ·subst ha
    have:=qV I (n+1) _ _ _ _ Zq Zs e0
    subst this
    exact .same _
   ·exact .of_refs ha main.1
  ·exact HL hx hy rv nQ e
end
section
variable{X:Cx}{E:Str->Hp->Prop}{pos:Pos}
def L9(K:PySem.W.Frag)(ne:Bool):R2:=fun v w H Q=>∃x y b,Is K Tr H x v/\Is K Tr H y w/\pe 6 x y=some b/\Q (.bl (if ne=true then !b else b)) H
theorem dX(hu:X.A.units+6<cLine):qJ X (compareOp .Eq) (L9 X.K false):=by
 intro pins s σ H v w u u' Q I rx ry h
 obtain⟨x,y,b,hx,hy,e,q⟩:=h
 exact(Dr I 6 X.A x y v w u u' b hu hx hy rx ry e).2.1 X.prog X.w _ _ ⟨.bl b,H,I,rfl,q⟩
theorem nV(hu:X.A.units+6<cLine):qJ X (compareOp .NotEq) (L9 X.K true):=by
 intro pins s σ H v w u u' Q I rx ry h
 obtain⟨x,y,b,hx,hy,e,q⟩:=h
 exact(Dr I 6 X.A x y v w u u' b hu hx hy rx ry e).2.2 X.prog X.w _ _ ⟨.bl (!b),H,I,rfl,q⟩
def uk(x y:D):Option D:=(pe 6 x y).map .bl
def y7(x y:D):Option D:=(pe 6 x y).map fun b=>.bl (!b)
theorem cD:lj X (L9 X.K false) uk:=fun x y d e=>by
 unfold uk at e
 cases h:pe 6 x y with
 |none=>rw[h]at e;cases e
 |some b=>
  rw[h]at e;cases e
  exact⟨_,rfl,fun H v w Q i1 i2 q=>⟨x,y,b,i1,i2,h,q⟩⟩
theorem kH:lj X (L9 X.K true) y7:=fun x y d e=>by
 unfold y7 at e
 cases h:pe 6 x y with
 |none=>rw[h]at e;cases e
 |some b=>
  rw[h]at e;cases e
  exact⟨_,rfl,fun H v w Q i1 i2 q=>⟨x,y,b,i1,i2,h,q⟩⟩
theorem aZ.u6 {k:Nat}{A:Around}(r:aZ k A):A.units+6<cLine:=by have:=r.un;omega
end
def Kp(nt:Nat)(b:D->DE->R DE):Prop:=∀(d:D)(r ts e':DE),ts.length=nt->b d (ts++r)=.ok e'->∃VG,e'=VG++r/\VG.length=nt
def NZ(nt:Nat)(b:List D->DE->R DE):Prop:=∀(d:List D)(r ts e':DE),ts.length=nt->b d (ts++r)=.ok e'->∃VG,e'=VG++r/\VG.length=nt
theorem kpN{nt:Nat}(i:Nat)(hi:i<nt:=by decide):Kp nt fun d env=>.ok (env.set i (.val d)):=fun d r ts e' hl h=>by
 cases h
 exact⟨ts.set i (.val d),by rw[List.set_append_left _ _ (by omega)],by simp[hl]⟩
theorem VH{nt:Nat}:NZ nt fun ds env=>match ds with
  |[]=>.ok env
  |_=>.bad:=fun d r ts e' hl h=>by
 cases d with
 |nil=>cases h;exact⟨ts,rfl,hl⟩
 |cons _ _=>cases h
theorem Q8{nt:Nat}{b:D->DE->R DE}{k:List D->DE->R DE}(hb:Kp nt b)(hk:NZ nt k):NZ nt fun ds env=>match ds with
   |d::r=>(b d env).bind fun e'=>k r e'
   |_=>.bad:=fun d r ts e' hl h=>by
 cases d with
 |nil=>cases h
 |cons x xs=>
  obtain⟨e1,h1,h2⟩:=R.eg (show(b x (ts++r)).bind (fun e'=>k xs e')=.ok e' from h)
  obtain⟨t1,rfl,l1⟩:=hb x r ts e1 hl h1
  exact hk xs r t1 e' l1 h2
theorem kpT{nt n:Nat}{b:List D->DE->R DE}(hb:NZ nt b):Kp nt fun d env=>match d with
   |.tup ds=>if ds.length=n then b ds env else .bad
   |_=>.bad:=fun d r ts e' hl h=>by
 cases d with
 |tup ds=>
  have h':(if ds.length=n then b ds (ts++r)else .bad)=.ok e':=h
  split at h'
  ·exact hb ds r ts e' hl h'
  ·cases h'
 |non=>cases h
 |bl _=>cases h
 |int _=>cases h
 |str _=>cases h
 |lst _=>cases h
 |exc _=>cases h
 |fn _=>cases h
theorem Kp.ok {nt:Nat}{b:D->DE->R DE}(h:Kp nt b):∀ds d e,b d (lI nt ds)=.ok e->∃ts,e=ts++ds.map Sl.val/\ts.length=nt:=fun ds d e q=>h d _ _ e (by simp) q
structure Df(K:PySem.W.Frag)(mg:Str->Option Value)(x:Str)(st:Stmt)(ps:List Str)(f:Addr)(fd:FuncData):Prop where
 F:z8 K x x st f fd
 b:Binds K fd ps []
 m:mg x=some (.ref f)
 ns:nsIn K mainGlobals x=some (some (.ref f))
abbrev GK:Str->Value:=fun _=>.none
section
variable{X:Cx}{E:Str->Hp->Prop}{pos:Pos}{k:Nat}{fa:Addr}{fd:FuncData}{st:Stmt}{ps:List Str}{x:Str}{p:Pos}{e:Expr}{es:List Expr}{f:DE->R (List D)}
theorem FH{m:List D->R D}(d:Df X.K X.mg x st ps fa fd)(F:cu X.prog X.w X.K X.mg X.base kC k fa fd ps (Dh X.K GK m))(hr:aZ k X.A)
  (ha:PA X (e::es) (Hs X.K E f))(hg:Gl X x:=by rfl)(hdb:(x==("__debug__":Str))=false:=by decide)(he:starEach (e::es) X.env=(false,eval e X.env)::starEach es X.env:=by rfl)(hpl:(backTo pos (starEach es X.env)).any (·.1)=false:=by rfl):
  PE X (.Call (.Name x p) (e::es) [] pos) (tD X.K E fun env=>(f env).bind m):=fD F d.m d.F.kp d.b hr kG ha hg hdb he hpl
def ScD(m:List D->R D):Prop:=∀ds d,m ds=.ok d->∃z,toV d=some z
def ScL(m:List D->R (List D)):Prop:=∀ds xs,m ds=.ok xs->∀d∈xs,∃z,toV d=some z
theorem Ds{m:List D->R D}(hsc:ScD m)(d:Df X.K X.mg x st ps fa fd)(F:cu X.prog X.w X.K X.mg X.base kC k fa fd ps (Dh X.K GK m))(hr:aZ k X.A)
  (ha:PA X (e::es) (sQ X.K E f))(hg:Gl X x:=by rfl)(hdb:(x==("__debug__":Str))=false:=by decide)(he:starEach (e::es) X.env=(false,eval e X.env)::starEach es X.env:=by rfl)(hpl:(backTo pos (starEach es X.env)).any (·.1)=false:=by rfl):
  PE X (.Call (.Name x p) (e::es) [] pos) (tD X.K E fun env=>(f env).bind m):=fB F hsc d.m d.F.kp d.b hr kG ha hg hdb he hpl
theorem zR{m:List D->R (List D)}(d:Df X.K X.mg x st ps fa fd)(F:cu X.prog X.w X.K X.mg X.base kC k fa fd ps (K5 X.K GK m))(hr:aZ k X.A)
  (ha:PA X (e::es) (Hs X.K E f))(hg:Gl X x:=by rfl)(hdb:(x==("__debug__":Str))=false:=by decide)(he:starEach (e::es) X.env=(false,eval e X.env)::starEach es X.env:=by rfl)(hpl:(backTo pos (starEach es X.env)).any (·.1)=false:=by rfl):
  PE X (.Call (.Name x p) (e::es) [] pos) (tF X.K E fun env=>(f env).bind m):=fF F d.m d.F.kp d.b hr kG ha hg hdb he hpl
theorem Zw{m:List D->R (List D)}(hsc:ScL m)(d:Df X.K X.mg x st ps fa fd)(F:cu X.prog X.w X.K X.mg X.base kC k fa fd ps (K5 X.K GK m))(hr:aZ k X.A)
  (ha:PA X (e::es) (sQ X.K E f))(hg:Gl X x:=by rfl)(hdb:(x==("__debug__":Str))=false:=by decide)(he:starEach (e::es) X.env=(false,eval e X.env)::starEach es X.env:=by rfl)(hpl:(backTo pos (starEach es X.env)).any (·.1)=false:=by rfl):
  PE X (.Call (.Name x p) (e::es) [] pos) (tF X.K E fun env=>(f env).bind m):=fFB F hsc d.m d.F.kp d.b hr kG ha hg hdb he hpl
end
abbrev Ok(P:Program)(w:World)(K:PySem.W.Frag)(mg:Str->Option Value)(base:Heap)(k:Nat)(f:Addr)(fd:FuncData)(ps:List Str)(m:List D->R D):Prop:=cu P w K mg base kC k f fd ps (Dh K GK m)
abbrev mB(P:Program)(w:World)(K:PySem.W.Frag)(mg:Str->Option Value)(base:Heap)(k:Nat)(f:Addr)(fd:FuncData)(ps:List Str)(m:List D->R (List D)):Prop:=cu P w K mg base kC k f fd ps (K5 K GK m)
section
variable{P:Program}{w:World}{K:PySem.W.Frag}{mg:Str->Option Value}{base:Heap}
theorem mkD{x:Str}{st:Stmt}{f:Addr}{fd:FuncData}{N ps:List Str}{k:Nat}{m:List D->R D}{b:DE->R Out}(S:aD N ps (ae st))(d:Df K mg x st ps f fd)
  (hb:∀(cdv:Value)(A:Around)(outer:List Env)(s:Shared)(H:Hp)(E:XK),aZ k (A.deeper (envOfC x (ae st) s.heap.objs.size f cdv))->ql (qo kC P w K mg base N x (ae st) f cdv A outer s H E).GC (bH st) (tS K EN b))
  (hm:∀ds d,m ds=.ok d->ds.length=ps.length/\(b (aP N.length ds)).bind ah=.ok d)(hne:∀ds c,m ds≠.err c):
  Ok P w K mg base (k+1) f fd ps m:=Y6 d.F S hm hne hb
theorem mkF{x:Str}{st:Stmt}{f:Addr}{fd:FuncData}{N ps:List Str}{k:Nat}{m:List D->R (List D)}{b:DE->R Out}(S:aD N ps (ae st))(d:Df K mg x st ps f fd)
  (hb:∀(cdv:Value)(A:Around)(outer:List Env)(s:Shared)(H:Hp)(E:XK),aZ k (A.deeper (envOfC x (ae st) s.heap.objs.size f cdv))->ql (qo kC P w K mg base N x (ae st) f cdv A outer s H E).GC (bH st) (tS K EN b))
  (hm:∀ds d,m ds=.ok d->ds.length=ps.length/\(b (aP N.length ds)).bind aj=.ok d)(hne:∀ds c,m ds≠.err c):
  mB P w K mg base (k+1) f fd ps m:=Y7 d.F S hm hne hb
end
section
variable{X:Cx}{E:Str->Hp->Prop}{pos:Pos}
def Q9(x y:D):Option D:=match y with
 |.non=>some (.bl (match x with
  |.non=>true
  |_=>false))
 |_=>none
def um(x y:D):Option D:=match y with
 |.non=>some (.bl (match x with
  |.non=>false
  |_=>true))
 |_=>none
theorem Dt{K:PySem.W.Frag}{P:Addr->Prop}{H:Hp}{x:D}{v:V}(h:Is K P H x v):decide (v=V.non)=(match x with
  |.non=>true
  |_=>false):=by
 cases x with
 |non=>cases h;rfl
 |bl _=>cases h;rfl
 |int _=>cases h;rfl
 |str _=>cases h;rfl
 |lst _=>obtain⟨a,vs,rfl,_⟩:=h;rfl
 |tup _=>obtain⟨a,vs,rfl,_⟩:=h;rfl
 |exc _=>obtain⟨a,vs,rfl,_⟩:=h;rfl
 |fn _=>obtain⟨a,rfl,_⟩:=h;rfl
theorem Mb:lj X (fun x y H Q=>y=.non/\Q (.bl (decide (x=.non))) H) Q9:=fun x y d e=>by
 unfold Q9 at e
 split at e
 ·cases e
  refine⟨_,rfl,fun H v w Q h1 h2 q=>⟨h2,?_⟩⟩
  rw[Dt h1]
  cases x<;>exact q
 ·cases e
theorem vZ:lj X (fun x y H Q=>y=.non/\Q (.bl (!decide (x=.non))) H) um:=fun x y d e=>by
 unfold um at e
 split at e
 ·cases e
  refine⟨_,rfl,fun H v w Q h1 h2 q=>⟨h2,?_⟩⟩
  rw[Dt h1]
  cases x<;>exact q
 ·cases e
def Mc(xs:List D):D->R (List D)
 |.int k=> @ite _ (-(2^63)<=k/\k<2^63/\xs.length*k.toNat<=sizeLine) (propDecidable _) (.ok (replicate k.toNat xs).flatten) .bad
 |_=>.bad
theorem IsL.rep {K:PySem.W.Frag}{P:Addr->Prop}{H:Hp}{ds:List D}{vs:List V}(h:IsL K P H ds vs):∀n:Nat,IsL K P H (replicate n ds).flatten (replicate n vs).flatten
 |0=>rfl
 |n+1=>by
  rw[replicate_succ,replicate_succ,flatten_cons,flatten_cons]
  exact h.app (IsL.rep h n)
theorem Zx{a b:Expr}{fa:DE->R (List D)}{fb:DE->R D}(ha:PE X a (tF X.K E fa))(hb:PE X b (tB X.K E fb)):PE X (.BinOp a .Mult b pos) (tF X.K E fun env=>(fa env).bind fun x=>(fb env).bind fun y=>Mc x y):=
 imp (qK QD ha hb) fun σ H Q ⟨g,env,os,r,m⟩=>⟨g,env,os,r,m.bind.mono fun x _ m1 a1 v1 H1 s1 hn hH i1=>⟨g,env,os,r.same s1,m1.bind.mono fun y _ m2 w H2 s2 i2=>by
  unfold Mc at m2
  split at m2
  ·rename_i k _
   split at m2
   ·rename_i c
    have TY:IsL X.K (g.P os) H1 x v1:=IsL.ext ⟨fun b o p _=>⟨p.1,fun z=>p.2 (mem_cons_of_mem _ z)⟩,fun _ _ _ q=>q⟩ _ _ i1
    refine⟨a1,k,v1,rfl,i2,s2 _ _ hH,c.1,c.2.1,by rw[TY.length];exact c.2.2,fun p hp=>?_⟩
    obtain⟨b1,b2,b3,b4⟩:=FD r (s1.trans s2) hp ((TY.same s2).rep k.toNat)
    exact m2 p _ _ b1 b2 b3 b4
   ·exact m2.elim
  ·exact m2.elim⟩⟩
theorem wb:bootBuiltins "range"=some (.type "range"):=by decide +kernel
def mC:List D->R (List D)
 |[.int j]=> @ite _ (0<=j/\j<=1000000) (propDecidable _) (.ok (pX 0 j.toNat)) .bad
 |_=>.bad
theorem Md{K:PySem.W.Frag}{P:Addr->Prop}{H:Hp}{n:Nat}:IsL K P H (pX 0 n) ((range n).map fun i=>V.int (0+(i:Nat))):=by
 unfold pX
 induction (range n)with
 |nil=>rfl
 |cons x r ih=>exact⟨_,_,rfl,rfl,ih⟩
theorem xP{acc:List Value}{n:Nat}(h1:acc.length=n)(h2:∀(j:Nat)(v:Value),acc[j]?=some v->∃t,v=.int (0+(j:Nat)) t):Vals ((range n).map fun i=>V.int (0+(i:Nat))) acc:=by
 have gen:∀(l:List Value)(k:Nat),(∀(j:Nat)(v:Value),l[j]?=some v->∃t,v=.int (0+((k+j:Nat):Int)) t)->Vals ((range' k l.length).map fun i=>V.int (0+(i:Nat))) l:=by
  intro l
  induction l with
  |nil=>intro k _;exact .nil
  |cons x r ih=>
   intro k hk
   rw[length_cons,range'_succ,map_cons]
   refine .cons ?_ (ih (k+1) fun j v e=>?_)
   ·obtain⟨t,e⟩:=hk 0 x (by simp)
    exact⟨t,e⟩
   ·obtain⟨t,e⟩:=hk (j+1) v (by simpa using e)
    exact⟨t,by rw[e];congr 2;omega⟩
 subst h1
 rw[List.range_eq_range']
 exact gen acc 0 fun j v e=>by
  obtain⟨t,q⟩:=h2 j v e
  exact⟨t,by rw[q];congr 2;omega⟩
theorem B4{a:Expr}{p p2 qr:Pos}{f:DE->R (List D)}(hc:X.calm=true)(HN:X.mg "list"=none)(VI:X.mg "range"=none)(ha:PA X [a] (sQ X.K E f))(VJ:Gl X "list":=by rfl)(hgr:Gl X "range":=by rfl)
  (hs:starEach [a] X.env=[(false,eval a X.env)]:=by rfl)(he:starEach [.Call (.Name "range" p2) [a] [] qr] X.env=(false,eval (.Call (.Name "range" p2) [a] [] qr) X.env)::starEach [] X.env:=by rfl)(hpl:(backTo pos (starEach [] X.env)).any (·.1)=false:=by rfl):
  PE X (.Call (.Name "list" p) [.Call (.Name "range" p2) [a] [] qr] [] pos) (tF X.K E fun env=>(f env).bind mC):=by
 intro pins s σ H Q I h
 obtain⟨g,env,os,r,m⟩:=h
 refine wpAny_Call_Name_kw (iD I VJ HN mz ?_)
 refine PyProof.Rows.callWith_type1 ?_ he hpl
 rw[he]
 refine Calls.spliced_cons ?_
 refine Call_ (iD I hgr VI wb (PyProof.Rows.callWith_type1 (cj (ha qr pins s σ H _ I ⟨g,env,os,r,m.bind.mono fun ds _ q vs H1 s1 i1=>(⟨ds,s1,i1,q⟩:∃ds,aM H H1/\IsL X.K Tr H1 ds vs/\Good E g.H₀ (mC ds) _)⟩) fun us s1 ⟨vs,H1,I1,r1,ds,sm,i1,q⟩=>?_) hs rfl))
 unfold mC at q
 split at q
 ·rename_i j
  split at q
  ·rename_i c
   obtain⟨v,rfl,iv⟩:=IsL.y0 i1
   have VL:v=.int j:=iv
   subst VL
   obtain⟨u,rfl,t,rfl⟩:=vals1 r1
   refine call_range_1 ?_
   have I2:Inv X pins σ H1 {s1 with heap:=s1.heap.push {cls:=.type "range",data:=.fields #[.int 0 s1.toks,.int j t,.int 1 (s1.toks+1)]},toks:=s1.toks+1+1}:=I1.kept fun b o e=>Heap.get?_push_of_some _ e
   refine Calls.spliced_nil ?_
   have hd:X.A.handled=none:=I.ok.hd hc
   have hsz:Builtin.Range.rangeSize 0 j 1=(j.toNat:Nat):=by rw[rangeSize_one];split<;>omega
   refine call_list_range hd (IsRange.new ..) (small_one (by omega) (by omega) (by omega) (by omega)) hsz (by omega) fun h' tk nM c' hk hl hit=>?_
   obtain⟨hi1,hi2⟩:=hit
   have hv:Vals ((range j.toNat).map fun i=>V.int (0+(i:Nat))) nM.toList:=xP (by simpa using hi1) fun i v e=>by
    obtain⟨t,q⟩:=hi2 i v (by simpa using e)
    exact⟨t,by rw[q];congr 1;omega⟩
   have hlen:((range j.toNat).map fun i=>V.int (0+(i:Nat))).length<=sizeLine:=by
    rw[length_map,length_range]
    exact le_trans (show j.toNat<=1000000 by omega) (by decide)
   refine⟨.ref _,upd H1 _ (.lst ((range j.toNat).map fun i=>V.int (0+(i:Nat)))),I2.laid (a:=_) hk (Nat.le_refl _) ⟨hlen,nM.toList,c',hv,by simpa using hl⟩,rfl,?_⟩
   have hn:H1 (s1.heap.push {cls:=.type "range",data:=.fields #[.int 0 s1.toks,.int j t,.int 1 (s1.toks+1)]}).objs.size=none:=I2.hok.fresh (Nat.le_refl _)
   exact q _ _ _ (sm.trans (aO hn _)) (sm.free hn) ar Md
  ·exact q.elim
 ·exact q.elim
end
def eu:D->D->Option D
 |.int i,.int j=>some (.int (i+j))
 |_,_=>none
theorem bw{X:Cx}:lj X (C0 fun i j=>.int (i+j)) eu:=nU (h:=fun i j=>.int (i+j)) (fun _ _=>rfl) fun x y d e=>by
 unfold eu at e
 split at e<;>cases e
 exact⟨_,_,rfl,rfl,rfl⟩
def N3(N4 sc:Scope)(XN N:List Str)(nt:Nat)(caps:List Nat):Bool:=
 sc.kind==.function&&sc.names.all (fun y=>y.2 !=.cell&&(y.2 !=.local||sc.names.lookup y.1==some .local)&&(y.2 !=.free||N4.names.lookup y.1==some .cell||N4.names.lookup y.1==some .free))&&
 N.length==nt+caps.length&&decide N.Nodup&&(range caps.length).all fun j=>match caps[j]?,N[nt+j]? with
  |some i,some x=>XN[i]?==some x&&sc.names.lookup x==some .free&&(N4.names.lookup x==some .local||N4.names.lookup x==some .cell||N4.names.lookup x==some .free)
  |_,_=>false
theorem Me{X:Cx}{sc:Scope}{N:List Str}{nt:Nat}{caps:List Nat}(N4:Scope)(XN:List Str)(h:N3 N4 sc XN N nt caps=true)(hsc:X.env.scope=N4:=by rfl)(hN:X.N=XN:=by rfl):iP X sc N nt caps:=by
 subst hsc hN
 unfold N3 at h
 simp only [and_eq_true,List.all_eq_true,or_eq_true,decide_eq_true_eq,beq_iff_eq,bne_iff_ne,ne_eq]at h
 obtain⟨⟨⟨⟨h1,h2⟩,h3⟩,h4⟩,h5⟩:=h
 refine⟨by simpa using h1,fun y hy=>(h2 y hy).1.1,fun y hy e=>?_,fun y hy e=>?_,h3,h4,fun j i e=>?_⟩
 ·rcases(h2 y hy).1.2 with q|q
  ·exact absurd e q
  ·exact q
 ·rcases(h2 y hy).2 with(q|q)|q
  ·exact absurd e q
  ·exact .inl q
  ·exact .inr q
 ·have hj:j<caps.length:=(List.getElem?_eq_some_iff.mp e).1
  have q:=h5 j (by simpa using hj)
  rw[e]at q
  cases hx:N[nt+j]? with
  |none=>rw[hx]at q;exact absurd q (by simp)
  |some x=>
   rw[hx]at q
   simp only [and_eq_true,or_eq_true,beq_iff_eq]at q
   obtain⟨⟨q1,q2⟩,q3⟩:=q
   refine⟨x,rfl,q1,q2,?_⟩
   rcases q3 with(q3|q3)|q3
   ·exact .inl q3
   ·exact .inr (.inl q3)
   ·exact .inr (.inr q3)
def Zy(i:Nat):Out->R Out
 |.nx e=>.ok (.nx (xB i e))
 |o=>.ok o
theorem y8(i j:Int):eu (.int i) (.int j)=some (.int (i+j)):=rfl
theorem HP(i j:Int):jD (.int i) (.int j)=some (.int (i-j)):=rfl
theorem HQ(i:Int):qP (.int i)=some (.int (-i)):=rfl
theorem N5(i j:Int):K4 (.int i) (.int j)=some (.bl (decide (i<j))):=rfl
theorem N6(i j:Int):Vj (.int i) (.int j)=some (.bl (decide (i<=j))):=rfl
theorem N7(i j:Int):xK (.int i) (.int j)=some (.bl (decide (j<i))):=rfl
theorem N8(i j:Int):kGe (.int i) (.int j)=some (.bl (decide (j<=i))):=rfl
theorem N9(i j:Int):uk (.int i) (.int j)=some (.bl (i==j)):=rfl
theorem Oa(i j:Int):y7 (.int i) (.int j)=some (.bl (!(i==j))):=rfl
theorem Ob(i j:Str):uk (.str i) (.str j)=some (.bl (i==j)):=rfl
theorem Oc(i j:Str):y7 (.str i) (.str j)=some (.bl (!(i==j))):=rfl
theorem y9(i j:Int)(h:(-(2^64)<i/\i<2^64)\/(-(2^64)<j/\j<2^64)):BW (.int i) (.int j)=some (.int (i*j)):=if_pos h
theorem nW(i j:Int)(h:0<j/\j<1073741824):vU (.int i) (.int j)=some (.int (i/j)):=if_pos h
theorem gJ(i j:Int)(h:0<j):nT (.int i) (.int j)=some (.int (i%j)):=if_pos h
theorem Ra(i j:Int)(h:0<=j/\j<=1000000/\i.natAbs<2^64):Hw (.int i) (.int j)=some (.int (i^j.toNat)):=if_pos h
theorem Zz:(10:Int)^(9:Nat)=1000000000:=by
 rw[show(10:Int)=((10:Nat):Int)from rfl,<-Int.natCast_pow]
 rfl
theorem VM:(10:Int)^(9:Int).toNat=1000000000:=Zz
theorem HR:Hw (.int 10) (.int 9)=some (.int 1000000000):=(Ra 10 9 (by decide)).trans (by rw[VM])
theorem HS(i:Int):y4 [.int i]=some (.int (if i<0 then-i else i)):=rfl
theorem Du(i j:Int):Dg [.int i,.int j]=some (.int (if j>i then j else i)):=rfl
theorem HU(xs:List D):my [.lst xs]=some (.int xs.length):=rfl
theorem HV(xs:List D):my [.tup xs]=some (.int xs.length):=rfl
theorem Oe(b:Bool):fH (.bl b)=.ok b:=rfl
theorem Og(xs:List D):vR (.lst xs)=.ok xs:=rfl
theorem Oh(i:Int):zP (.int i)=.ok (some i):=rfl
theorem Oi(xs:List D)(i:Int):p8 xs (.int i)=R.of (ig xs i):=rfl
theorem Oj(xs:List D)(i:Int):sU (.lst xs) (.int i)=R.of (ig xs i):=rfl
theorem Ol(xs:List D)(i:Int):sU (.tup xs) (.int i)=R.of (ig xs i):=rfl
theorem qt{α:Type}{xs:List α}(h:xs.length<=sizeLine):fit xs=.ok xs:=if_pos h
theorem big{n:Nat}(h:n<=1000000):n<=sizeLine:=le_trans h (by decide)
theorem VN{α:Type}:fit ([]:List α)=.ok []:=qt (big (by simp))
theorem VO{α:Type}(a:α):fit [a]=.ok [a]:=qt (big (by simp))
theorem VP{α:Type}(a b:α):fit [a,b]=.ok [a,b]:=qt (big (by simp))
theorem VQ{α:Type}(a b c:α):fit [a,b,c]=.ok [a,b,c]:=qt (big (by simp))
theorem VR{α:Type}(a b c d:α):fit [a,b,c,d]=.ok [a,b,c,d]:=qt (big (by simp))
theorem HW(i j:Int)(h: -(2^62)<=i/\i<2^62/\ -(2^62)<=j/\j<2^62):FE [.int i,.int j]=.ok (pX i (j-i).toNat):=if_pos h
theorem yi(j:Int)(h:0<=j/\j<=1000000):mC [.int j]=.ok (pX 0 j.toNat):=if_pos h
theorem Rb(xs:List D)(k:Int)(h: -(2^63)<=k/\k<2^63/\xs.length*k.toNat<=sizeLine):Mc xs (.int k)=.ok (replicate k.toNat xs).flatten:=if_pos h
theorem Dv(e:DE)(k:DE->R Out):aV (.ok (.nx e)) k=k e:=rfl
theorem Dw(d:D)(k:DE->R Out):aV (.ok (.rt d)) k=.ok (.rt d):=rfl
theorem An(d:List D)(k:DE->R Out):aV (.ok (.o8 d)) k=.ok (.o8 d):=rfl
theorem Dy(i:Nat)(e:DE):Zy i (.nx e)=.ok (.nx (xB i e)):=rfl
theorem qu{S:Type}{b:D->DE->R Out}(J:Nat->S->Prop)(Ev:S->DE):∀(xs:List D)(i:Nat)(s:S),J i s->(∀(j:Nat)(s:S)(x:D),J (i+j) s->xs[j]?=some x->∃s',b x (Ev s)=.ok (.nx (Ev s'))/\J (i+j+1) s')->∃s',gG b xs (Ev s)=.ok (.nx (Ev s'))/\J (i+xs.length) s'
 |[],i,s,hI,h=>⟨s,rfl,hI⟩
 |x::xs,i,s,hI,h=>by
  obtain⟨s1,h1,h2⟩:=h 0 s x hI rfl
  obtain⟨s2,h3,h4⟩:=qu J Ev xs (i+1) s1 (by simpa using h2) fun j s y hs hy=>by
   have e:i+1+j=i+(j+1):=by omega
   rw[e]at hs⊢
   exact h (j+1) s y hs (by simpa using hy)
  refine⟨s2,?_,by rw[length_cons,show i+(xs.length+1)=i+1+xs.length by omega];exact h4⟩
  unfold gG
  rw[h1]
  exact h3
theorem ph{b:D->DE->R DE}{ct:DE->R Bool}{fe:DE->R D}{e₀:DE}(g:D->D):∀(xs:List D),(∀x∈xs,∃e,b x e₀=.ok e/\ct e=.ok true/\fe e=.ok (g x))->dN b ct fe e₀ xs=.ok (xs.map g)
 |[],_=>rfl
 |x::xs,h=>by
  obtain⟨e,h1,h2,h3⟩:=h x (by simp)
  have ih:=ph g xs fun y hy=>h y (by simp[hy])
  unfold dN
  rw[h1,R.bV,h2,R.bV,if_pos rfl,h3,R.bV,ih]
  rfl
def aK(ns:List Int):List D:=ns.map .int
theorem bc(ns:List Int):(aK ns).length=ns.length:=length_map _
def Dz:List D->Option (List Int)
 |[]=>some []
 |.int i::r=>(Dz r).map (i::·)
 |_::_=>none
theorem wc(ns:List Int):Dz (aK ns)=some ns:=by
 induction ns with
 |nil=>rfl
 |cons x r ih=>show(Dz (aK r)).map (x::·)=_;rw[ih];rfl
theorem we:∀{xs:List D}{ns:List Int},Dz xs=some ns->xs=aK ns
 |[],ns,h=>by cases h;rfl
 |.int i::r,ns,h=>by
  unfold Dz at h
  cases e:Dz r with
  |none=>rw[e]at h;cases h
  |some ms=>rw[e]at h;cases h;rw[we e];rfl
 |.non::r,_,h=>by cases h
 |.bl _::r,_,h=>by cases h
 |.str _::r,_,h=>by cases h
 |.lst _::r,_,h=>by cases h
 |.tup _::r,_,h=>by cases h
theorem yj(n:Nat):∀(a b:List Int),a.length=b.length->nK (pe n) (aK a) (aK b)=some (decide (a=b))
 |[],[],_=>rfl
 |[],_::_,h=>by simp at h
 |_::_,[],h=>by simp at h
 |x::a,y::b,h=>by
  have ih:=yj n a b (by simpa using h)
  show(pe n (.int x) (.int y)).bind _=_
  have e:pe n (.int x) (.int y)=some (x==y):=by cases n<;>rfl
  rw[e]
  show(nK (pe n) (aK a) (aK b)).map ((x==y)&&·)=_
  rw[ih]
  show some ((x==y)&&decide (a=b))=some (decide (x::a=y::b))
  congr 1
  rw[Bool.eq_iff_iff]
  simp
theorem nX(n:Nat)(a b:List Int):pe (n+1) (.lst (aK a)) (.lst (aK b))=some (decide (a=b)):=by
 show(if(aK a).length=(aK b).length then nK (pe n) (aK a) (aK b)else some false)=_
 split
 ·rename_i h
  exact yj n a b (by simpa[bc]using h)
 ·rename_i h
  congr 1
  symm
  rw[decide_eq_false_iff_not]
  rintro rfl
  exact h rfl
theorem VS(a b:List Int):uk (.lst (aK a)) (.lst (aK b))=some (.bl (decide (a=b))):=by unfold uk;rw[nX];rfl
theorem Om(a b:List Int):y7 (.lst (aK a)) (.lst (aK b))=some (.bl (!decide (a=b))):=by unfold y7;rw[nX];rfl
theorem qW(ns:List Int)(i:Int):ig (aK ns) i=(ig ns i).map .int:=by
 unfold L2.ig
 rw[bc]
 cases qH ns.length i with
 |none=>rfl
 |some j=>exact getElem?_map
theorem jE(ns:List Int)(lo hi:Option Int):cut (aK ns) lo hi=aK (cut ns lo hi):=by
 unfold cut
 rw[bc]
 simp only [aK,List.map_take,map_drop]
theorem vg(lo:Int)(n:Nat):pX lo n=aK ((range n).map fun i=>lo+(i:Nat)):=by
 unfold pX aK
 rw[map_map];rfl
def bN(i:Nat)(d:D)(env:DE):R DE:=.ok (env.set i (.val d))
def xQ:List D->DE->R DE
 |[],env=>.ok env
 |_::_,_=>.bad
def jx(b:D->DE->R DE)(k:List D->DE->R DE):List D->DE->R DE
 |d::r,env=>(b d env).bind fun e'=>k r e'
 |[],_=>.bad
def bT(n:Nat)(b:List D->DE->R DE):D->DE->R DE
 |.tup ds,env=>if ds.length=n then b ds env else .bad
 |_,_=>.bad
def Rf(i:Nat)(env:DE)(xs:List D)(d:D):R Out:= @ite _ (xs.length<sizeLine) (propDecidable _) (.ok (.nx (env.set i (.own (xs++[d]))))) (.bad)
def Rg(i:Nat)(env:DE)(xs:List D):R Out:=if 0<xs.length then .ok (.nx (env.set i (.own xs.dropLast)))else .bad
def Ao(i:Nat)(env:DE)(d:D)(xs:List D):D->R Out
 |.int j=>(match qH xs.length j with
  |some n=>.ok (.nx (env.set i (.own (xs.set n d))))
  |none=>.bad)
 |_=>.bad
def FI(h:Int->Int->Int)(i:Nat)(env:DE):D->D->R Out
 |.int u,.int w=>.ok (.nx (env.set i (.val (.int (h u w)))))
 |_,_=>.bad
section
variable{X:Cx}{E:Str->Hp->Prop}{pos:Pos}
theorem xu(i:Nat){x:Str}(hN:X.N.Nodup)(hi:X.N[i]?=some x:=by rfl)(hx:Loc X.env.scope x:=by first|exact Or.inl rfl|exact Or.inr rfl)(hf:X.fn x=true\/X.env.scope.names.lookup x=some .local:=by first|exact .inl rfl|exact .inr rfl|assumption):
  PG X (.Name x pos) (tG X.K E (bN i)):=gN i hN hi hx hf
theorem za:CZ X [] (NX X.K E xQ):=by
 have e:xQ=fun ds env=>match ds with
  |[]=>.ok env
  |_=>.bad:=by funext ds env;cases ds<;>rfl
 rw[e];exact Vp
theorem kI{e:Expr}{es:List Expr}{b:D->DE->R DE}{k:List D->DE->R DE}(h1:PG X e (tG X.K E b))(h2:CZ X es (NX X.K E k))(hs:(assignEach (e::es) X.env).map (·.2)=assign e X.env::(assignEach es X.env).map (·.2):=by rfl):
  CZ X (e::es) (NX X.K E (jx b k)):=by
 have e':jx b k=fun ds env=>match ds with
   |d::r=>(b d env).bind fun e'=>k r e'
   |_=>.bad:=by funext ds env;cases ds<;>rfl
 rw[e'];exact QS h1 h2 hs
theorem Xw{es:List Expr}{kk:Nat}{b:List D->DE->R DE}(n:Nat)(hc:X.calm=true)(h:CZ X es (NX X.K E b))(hn:(assignEach es X.env).length=n:=by rfl)(hst:(assignEach es X.env).findIdx? (·.1)=none:=by rfl):
  PG X (.Tuple es kk pos) (tG X.K E (bT n b)):=by
 have e':bT n b=fun d env=>match d with
   |.tup ds=>if ds.length=n then b ds env else .bad
   |_=>.bad:=by funext d env;cases d<;>rfl
 rw[e'];exact gT hc h hn hst
theorem zb{nt:Nat}(i:Nat)(hi:i<nt:=by decide):Kp nt (bN i):=kpN i hi
theorem Rh{nt:Nat}:NZ nt xQ:=by
 have e:xQ=fun ds env=>match ds with
  |[]=>.ok env
  |_=>.bad:=by funext ds env;cases ds<;>rfl
 rw[e];exact VH
theorem DA{nt:Nat}{b:D->DE->R DE}{k:List D->DE->R DE}(hb:Kp nt b)(hk:NZ nt k):NZ nt (jx b k):=by
 have e':jx b k=fun ds env=>match ds with
   |d::r=>(b d env).bind fun e'=>k r e'
   |_=>.bad:=by funext ds env;cases ds<;>rfl
 rw[e'];exact Q8 hb hk
theorem ZA{nt:Nat}{b:List D->DE->R DE}(n:Nat)(hb:NZ nt b):Kp nt (bT n b):=by
 have e':bT n b=fun d env=>match d with
   |.tup ds=>if ds.length=n then b ds env else .bad
   |_=>.bad:=by funext d env;cases d<;>rfl
 rw[e'];exact kpT hb
theorem VU(i:Nat){x:Str}{e:Expr}{f:DE->R D}{p apos bA:Pos}(he:PE X e (tD X.K E f))(hN:X.N[i]?=some x:=by rfl)(hv:x8 X.env.scope x:=by first|exact Or.inl rfl|exact Or.inr (Or.inl rfl)|exact Or.inr (Or.inr rfl))(hd:(x==("__debug__":Str))=false:=by decide)
  (hcd:(x==("__classdict__":Str))=false:=by decide)
  (hbase:attributeBase (.Name x p) "append" X.env (eval (.Name x p) X.env)=eval (.Name x p) X.env:=by rfl)
  (hfew:((backTo bA (starEach [e] X.env)).all (fun x=> !x.1)&&(backToKw bA (keywordEach [] X.env)).all (fun x=>x.1.isSome)
   &&decide ([e].length+([]:List Keyword).length+(if([]:List Keyword).isEmpty then 0 else 1)<30))=true:=by rfl)
  (hline:(apos.endLine==bA.line)=true:=by rfl)(hst:starEach [e] X.env=(false,eval e X.env)::starEach [] X.env:=by rfl)(hplain:(backTo bA (starEach [] X.env)).any (·.1)=false:=by rfl)
  (hs:swapsWith (.Call (.Attribute (.Name x p) "append" apos) [e] [] bA) none pos.line X.env=pure false:=by rfl):
  PS X (.Expr (.Call (.Attribute (.Name x p) "append" apos) [e] [] bA) pos) (tS X.K E fun env=>(ownAt i env).bind fun xs=>(f env).bind fun d=>Rf i env xs d):=Y3 i he hN hv hd hcd hbase hfew hline hst hplain hs
theorem VV(i:Nat){x:Str}{p apos bA:Pos}(hN:X.N[i]?=some x:=by rfl)(hv:x8 X.env.scope x:=by first|exact Or.inl rfl|exact Or.inr (Or.inl rfl)|exact Or.inr (Or.inr rfl))(hd:(x==("__debug__":Str))=false:=by decide)
  (hcd:(x==("__classdict__":Str))=false:=by decide)
  (hbase:attributeBase (.Name x p) "pop" X.env (eval (.Name x p) X.env)=eval (.Name x p) X.env:=by rfl)(hline:(apos.endLine==bA.line)=true:=by rfl)
  (hs:swapsWith (.Call (.Attribute (.Name x p) "pop" apos) [] [] bA) none pos.line X.env=pure false:=by rfl):
  PS X (.Expr (.Call (.Attribute (.Name x p) "pop" apos) [] [] bA) pos) (tS X.K E fun env=>(ownAt i env).bind fun xs=>Rg i env xs):=Y4 i hN hv hd hcd hbase hline hs
theorem zc(i:Nat){x:Str}{ek e:Expr}{fk f:DE->R D}{p tp:Pos}(hk:PE X ek (tB X.K E fk))(he:PE X e (tD X.K E f))(hN:X.N[i]?=some x:=by rfl)(hv:x8 X.env.scope x:=by first|exact Or.inl rfl|exact Or.inr (Or.inl rfl)|exact Or.inr (Or.inr rfl))(hd:(x==("__debug__":Str))=false:=by decide)
  (hcd:(x==("__classdict__":Str))=false:=by decide)
  (ha:∀v,assign (.Subscript (.Name x p) ek tp) X.env v=(do
   let ov<-holding [v] (eval (.Name x p) X.env)
   let iv<-holding [v,ov] (eval ek X.env)
   standAt tp
   holding [v,ov,iv] (setItem ov iv v)
   release [v,ov,iv] []):=by intro _;rfl)
  (hs:swapsWithSole [.Subscript (.Name x p) ek tp] e pos.line X.env=pure false:=by rfl)(hw:swappedStores [.Subscript (.Name x p) ek tp] e X.env=pure none:=by rfl)
  (h1:(assignEach [.Subscript (.Name x p) ek tp] X.env).map (·.2)=[assign (.Subscript (.Name x p) ek tp) X.env]:=by rfl):
  PS X (.Assign [.Subscript (.Name x p) ek tp] e pos) (tS X.K E fun env=>(f env).bind fun d=>(ownAt i env).bind fun xs=>(fk env).bind fun kd=>Ao i env d xs kd):=by
 have h:=QP (pos:=pos) i hk he hN hv hd hcd ha hs hw h1
 have e':(fun env:DE=>(f env).bind fun d=>(ownAt i env).bind fun xs=>(fk env).bind fun kd=>Ao i env d xs kd)=(fun env=>(f env).bind fun d=>(ownAt i env).bind fun xs=>(fk env).bind fun kd=>match kd with
   |.int j=>(match qH xs.length j with
    |some n=>.ok (.nx (env.set i (.own (xs.set n d))))
    |none=>.bad)
   |_=>.bad):=by
  funext env
  refine congrArg (R.bind (f env)) (funext fun d=>congrArg (R.bind _) (funext fun xs=>congrArg (R.bind _) (funext fun kd=>?_)))
  cases kd<;>rfl
 rw[e'];exact h
theorem Oo(i:Nat){x:Str}{e:Expr}{op:Operator}{h:Int->Int->Int}{f:DE->R D}{pos':Pos}(ho:TU X op (UI h))(he:PE X e (tB X.K E f))(hN:X.N.Nodup)(hi:X.N[i]?=some x:=by rfl)(hx:Loc X.env.scope x:=by first|exact Or.inl rfl|exact Or.inr rfl)
  (hf:X.fn x=true\/X.env.scope.names.lookup x=some .local:=by first|exact .inl rfl|exact .inr rfl|assumption):
  PS X (.AugAssign (.Name x pos') op e pos) (tS X.K E fun env=>(bG i env).bind fun a=>(f env).bind fun b=>FI h i env a b):=by
 have h':=Y5 (pos:=pos) (pos':=pos') i ho he hN hi hx hf
 have e':(fun env:DE=>(bG i env).bind fun a=>(f env).bind fun b=>FI h i env a b)=(fun env=>(bG i env).bind fun a=>(f env).bind fun b=>match a,b with
   |.int u,.int w=>.ok (.nx (env.set i (.val (.int (h u w)))))
   |_,_=>.bad):=by
  funext env
  refine congrArg (R.bind _) (funext fun a=>congrArg (R.bind _) (funext fun b=>?_))
  cases a<;>cases b<;>rfl
 rw[e'];exact h'
end
def Mf(d:D):R D:=match toV d with
 |some _=>.ok d
 |none=>.bad
theorem B5{x d:D}(h:Mf x=.ok d):x=d/\∃z,toV d=some z:=by
 unfold Mf at h
 cases e:toV x with
 |none=>rw[e]at h;cases h
 |some z=>rw[e]at h;cases h;exact⟨rfl,z,e⟩
def Ua:List D->R (List D)
 |[]=>.ok []
 |x::r=>(Mf x).bind fun y=>(Ua r).bind fun ys=>.ok (y::ys)
theorem B6:∀{xs ys:List D},Ua xs=.ok ys->xs=ys/\∀d∈ys,∃z,toV d=some z
 |[],ys,h=>by cases h;exact⟨rfl,fun d hd=>nomatch hd⟩
 |x::r,ys,h=>by
  unfold Ua at h
  obtain⟨y,h1,h2⟩:=R.eg h
  obtain⟨zs,h3,h4⟩:=R.eg h2
  cases h4
  obtain⟨rfl,hz⟩:=B5 h1
  obtain⟨rfl,hs⟩:=B6 h3
  exact⟨rfl,fun d hd=>(mem_cons.mp hd).elim (fun e=>by rw[e];exact hz) (hs d)⟩
theorem Oq(i:Int):Mf (.int i)=.ok (.int i):=rfl
theorem Ot(i:Bool):Mf (.bl i)=.ok (.bl i):=rfl
theorem Ou(i:Str):Mf (.str i)=.ok (.str i):=rfl
theorem Ov:Mf .non=.ok .non:=rfl
theorem gK(ns:List Int):Ua (aK ns)=.ok (aK ns):=by
 induction ns with
 |nil=>rfl
 |cons x r ih=>show(Mf (.int x)).bind (fun y=>(Ua (aK r)).bind fun ys=>.ok (y::ys))=_;rw[ih];rfl
def mD(n N:Nat)(b:DE->R Out)(ds:List D):R D:=if ds.length=n then((b (aP N ds)).bind ah).ne else .bad
def mS(n N:Nat)(b:DE->R Out)(ds:List D):R D:=if ds.length=n then(((b (aP N ds)).bind ah).bind Mf).ne else .bad
def mF(n N:Nat)(b:DE->R Out)(ds:List D):R (List D):=if ds.length=n then((b (aP N ds)).bind aj).ne else .bad
def gm(n N:Nat)(b:DE->R Out)(ds:List D):R (List D):=if ds.length=n then(((b (aP N ds)).bind aj).bind Ua).ne else .bad
theorem R.bM {α:Type}{r:R α}{a:α}(h:r.ne=.ok a):r=.ok a:=by
 cases r with
 |ok b=>exact h
 |err c=>cases h
 |bad=>cases h
theorem R.HX {α:Type}{r:R α}{c:Str}:r.ne≠.err c:=by
 cases r<;>intro h<;>cases h
theorem DB{n N:Nat}{b:DE->R Out}:ScD (mS n N b):=fun ds d h=>by
 unfold mS at h
 split at h
 ·obtain⟨x,_,h2⟩:=R.eg (R.bM h)
  exact(B5 h2).2
 ·cases h
theorem scl{n N:Nat}{b:DE->R Out}:ScL (gm n N b):=fun ds d h=>by
 unfold gm at h
 split at h
 ·obtain⟨x,_,h2⟩:=R.eg (R.bM h)
  exact(B6 h2).2
 ·cases h
section
variable{P:Program}{w:World}{K:PySem.W.Frag}{mg:Str->Option Value}{base:Heap}
variable{x:Str}{st:Stmt}{f:Addr}{fd:FuncData}{N ps:List Str}{k:Nat}{b:DE->R Out}
theorem Ow(S:aD N ps (ae st))(d:Df K mg x st ps f fd)
  (hb:∀(cdv:Value)(A:Around)(outer:List Env)(s:Shared)(H:Hp)(E:XK),aZ k (A.deeper (envOfC x (ae st) s.heap.objs.size f cdv))->ql (qo kC P w K mg base N x (ae st) f cdv A outer s H E).GC (bH st) (tS K EN b)):
  Ok P w K mg base (k+1) f fd ps (mD ps.length N.length b):=mkD S d hb (fun ds e h=>by
 unfold mD at h
 split at h
 ·rename_i c
  exact⟨c,R.bM h⟩
 ·cases h) fun ds c h=>by
 unfold mD at h
 split at h
 ·exact R.HX h
 ·cases h
theorem Ox(S:aD N ps (ae st))(d:Df K mg x st ps f fd)
  (hb:∀(cdv:Value)(A:Around)(outer:List Env)(s:Shared)(H:Hp)(E:XK),aZ k (A.deeper (envOfC x (ae st) s.heap.objs.size f cdv))->ql (qo kC P w K mg base N x (ae st) f cdv A outer s H E).GC (bH st) (tS K EN b)):
  Ok P w K mg base (k+1) f fd ps (mS ps.length N.length b):=mkD S d hb (fun ds e h=>by
 unfold mS at h
 split at h
 ·rename_i c
  obtain⟨y,h1,h2⟩:=R.eg (R.bM h)
  obtain⟨rfl,_⟩:=B5 h2
  exact⟨c,h1⟩
 ·cases h) fun ds c h=>by
 unfold mS at h
 split at h
 ·exact R.HX h
 ·cases h
theorem qv(S:aD N ps (ae st))(d:Df K mg x st ps f fd)
  (hb:∀(cdv:Value)(A:Around)(outer:List Env)(s:Shared)(H:Hp)(E:XK),aZ k (A.deeper (envOfC x (ae st) s.heap.objs.size f cdv))->ql (qo kC P w K mg base N x (ae st) f cdv A outer s H E).GC (bH st) (tS K EN b)):
  mB P w K mg base (k+1) f fd ps (gm ps.length N.length b):=mkF S d hb (fun ds e h=>by
 unfold gm at h
 split at h
 ·rename_i c
  obtain⟨y,h1,h2⟩:=R.eg (R.bM h)
  obtain⟨rfl,_⟩:=B6 h2
  exact⟨c,h1⟩
 ·cases h) fun ds c h=>by
 unfold gm at h
 split at h
 ·exact R.HX h
 ·cases h
end
section
variable{d:D}{xs:List D}{r:DE}{a:Sl}{i:Nat}
theorem Oz:bG 0 (.val d::r)=.ok d:=rfl
theorem OA:bG (i+1) (a::r)=bG i r:=rfl
theorem OB:aX 0 (.val d::r)=.ok d:=rfl
theorem HY:aX 0 (.own xs::r)=.ok (.lst xs):=rfl
theorem OC:aX (i+1) (a::r)=aX i r:=rfl
theorem OD:gD 0 (.val (.lst xs)::r)=.ok xs:=rfl
theorem HZ:gD 0 (.own xs::r)=.ok xs:=rfl
theorem OE:gD (i+1) (a::r)=gD i r:=rfl
theorem OG:ownAt 0 (.own xs::r)=.ok xs:=rfl
theorem OH:ownAt (i+1) (a::r)=ownAt i r:=rfl
theorem OI:xB 0 (.own xs::r)=.val (.lst xs)::r:=rfl
theorem OJ:xB (i+1) (a::r)=a::xB i r:=by
 unfold xB
 rw[List.getElem?_cons_succ]
 cases e:r[i]? with
 |none=>rfl
 |some sl=>cases sl<;>rfl
end
theorem ZC(i j:Nat)(a b:D)(env:DE):bT 2 (jx (bN i) (jx (bN j) xQ)) (.tup [a,b]) env=.ok ((env.set i (.val a)).set j (.val b)):=rfl
theorem jy(i:Nat)(a:D)(env:DE):bN i a env=.ok (env.set i (.val a)):=rfl
theorem b7{ns:List Int}(h:ns.length<=1000000):fit (aK ns)=.ok (aK ns):=qt (by rw[bc];exact big h)
theorem iQ(a b:List Int):aK a++aK b=aK (a++b):=(map_append ..).symm
theorem nS(n d:Nat):HT.vM n d none=d:=rfl
theorem jC(n d:Nat)(i:Int)(h:0<=i):HT.vM n d (some i)=min i.toNat n:=by
 unfold HT.vM
 dsimp only
 split<;>omega
theorem qw{α:Type}(xs:List α)(m:Int)(h:0<=m):cut xs none (some m)=xs.take m.toNat:=by
 unfold cut
 rw[nS,jC _ _ _ h,drop_zero,sub_zero]
 rcases le_total m.toNat xs.length with q|q
 ·rw[min_eq_left q]
 ·rw[min_eq_right q,take_length,take_of_length_le q]
theorem nY{α:Type}(xs:List α)(m:Int)(h:0<=m):cut xs (some m) none=xs.drop m.toNat:=by
 unfold cut
 rw[nS,jC _ _ _ h]
 rcases le_total m.toNat xs.length with q|q
 ·rw[min_eq_left q,take_of_length_le (by rw[length_drop];exact Nat.le_refl _)]
 ·rw[min_eq_right q,sub_self,List.take_zero,List.drop_eq_nil_of_le q]
theorem Ri{α:Type}(xs:List α)(a b:Int)(h:0<=a)(h2:0<=b):cut xs (some a) (some b)=(xs.drop a.toNat).take (b.toNat-a.toNat):=by
 unfold cut
 rw[jC _ _ _ h,jC _ _ _ h2]
 rcases le_total a.toNat xs.length with q|q
 ·rw[min_eq_left q]
  rcases le_total b.toNat xs.length with q2|q2
  ·rw[min_eq_left q2]
  ·rw[min_eq_right q2,take_of_length_le (by rw[length_drop];exact Nat.le_refl _),take_of_length_le (by rw[length_drop];omega)]
 ·rw[min_eq_right q,List.drop_eq_nil_of_le (Nat.le_refl _),List.drop_eq_nil_of_le q,take_nil,take_nil]
theorem tj{cells:List Int}{j:Nat}{x:D}(h:(dO (aK cells))[j]?=some x):∃c,cells[j]?=some c/\x=.tup [.int (j:Nat),.int c]:=by
 obtain⟨d,hd,rfl⟩:=sX h
 unfold aK at hd
 rw[getElem?_map]at hd
 cases q:cells[j]? with
 |none=>rw[q]at hd;cases hd
 |some c=>rw[q]at hd;cases hd;exact⟨c,rfl,rfl⟩
theorem FJ(xs:List D):(dO xs).length=xs.length:=by simp[dO]
theorem DC{i:Nat}{env:DE}{xs:List D}{d:D}(h:xs.length<1000000):Rf i env xs d=.ok (.nx (env.set i (.own (xs++[d])))):=if_pos (lt_of_lt_of_le h (by decide))
theorem Mg{i:Nat}{env:DE}{xs:List D}(h:0<xs.length):Rg i env xs=.ok (.nx (env.set i (.own xs.dropLast))):=if_pos h
theorem Aq{i:Nat}{env:DE}{d:D}{xs:List D}{j:Int}(h:0<=j)(h2:j<xs.length):Ao i env d xs (.int j)=.ok (.nx (env.set i (.own (xs.set j.toNat d)))):=by
 unfold Ao
 have:qH xs.length j=some j.toNat:=by unfold L2.qH;rw[if_pos h,if_pos h2]
 simp only [this]
theorem vh{α:Type}{xs:List α}{j:Int}(h:0<=j):ig xs j=xs[j.toNat]?:=by
 unfold L2.ig L2.qH
 rw[if_pos h]
 split
 ·rfl
 ·rename_i c
  symm
  show _=none
  rw[List.getElem?_eq_none_iff]
  omega
theorem Mh(ns:List Int)(j:Nat)(x:Int):(aK ns).set j (.int x)=aK (ns.set j x):=map_set.symm
theorem Mi(ns:List Int)(j:Nat):(aK ns)[j]?=(ns[j]?).map .int:=getElem?_map
theorem DD(ns:List Int):(aK ns).reverse=aK ns.reverse:=map_reverse.symm
theorem qX(a:Int)(ns:List Int):D.int a::aK ns=aK (a::ns):=rfl
theorem OO(T:String)(i:Int):B1 T (.int i)=.ok (.bl (jQ (y6 (.int i)) T)):=rfl
theorem OP(T:String)(i:Bool):B1 T (.bl i)=.ok (.bl (jQ (y6 (.bl i)) T)):=rfl
theorem OQ(T:String)(i:Str):B1 T (.str i)=.ok (.bl (jQ (y6 (.str i)) T)):=rfl
theorem OS(T:String):B1 T .non=.ok (.bl (jQ (y6 .non) T)):=rfl
theorem OT(T:String)(i:List D):B1 T (.lst i)=.ok (.bl (jQ (y6 (.lst i)) T)):=rfl
theorem OU(T:String)(i:List D):B1 T (.tup i)=.ok (.bl (jQ (y6 (.tup i)) T)):=rfl
theorem aG:(type_of% @length_cons.{0})/\(type_of% @length_nil.{0})/\(type_of% @map_cons.{0,0})/\(type_of% @map_nil.{0,0})/\(type_of% @cons_append.{0})/\(type_of% @nil_append.{0})/\(type_of% @replicate_zero.{0})/\(type_of% @replicate_succ.{0})/\(type_of% @if_true.{1})/\(type_of% @ite_true.{1})/\(type_of% @false_eq_true)/\(type_of% @Bool.true_eq_false)/\(type_of% @Oz)/\(type_of% @OA)/\(type_of% @OB)/\(type_of% @HY)/\(type_of% @OC)/\(type_of% @OD)/\(type_of% @HZ)/\(type_of% @OE):=⟨@length_cons.{0},@length_nil.{0},@map_cons.{0,0},@map_nil.{0,0},@cons_append.{0},@nil_append.{0},@replicate_zero.{0},@replicate_succ.{0},@if_true.{1},@ite_true.{1},@false_eq_true,@Bool.true_eq_false,@Oz,@OA,@OB,@HY,@OC,@OD,@HZ,@OE⟩
theorem aH:(type_of% @OG)/\(type_of% @OH)/\(type_of% @OI)/\(type_of% @OJ)/\(type_of% @List.set_cons_zero.{0})/\(type_of% @List.set_cons_succ.{0})/\(type_of% @R.bV)/\(type_of% @R.kD)/\(type_of% @R.HC)/\(type_of% @Oe)/\(type_of% @Og)/\(type_of% @Oh)/\(type_of% @y8)/\(type_of% @HP)/\(type_of% @HQ)/\(type_of% @N5)/\(type_of% @N6)/\(type_of% @N7)/\(type_of% @N8)/\(type_of% @N9):=⟨@OG,@OH,@OI,@OJ,@List.set_cons_zero.{0},@List.set_cons_succ.{0},@R.bV,@R.kD,@R.HC,@Oe,@Og,@Oh,@y8,@HP,@HQ,@N5,@N6,@N7,@N8,@N9⟩
theorem aI:(type_of% @Oa)/\(type_of% @Ob)/\(type_of% @Oc)/\(type_of% @HS)/\(type_of% @Du)/\(type_of% @HU)/\(type_of% @HV)/\(type_of% @Oi)/\(type_of% @Oj)/\(type_of% @Ol)/\(type_of% @VN)/\(type_of% @VO)/\(type_of% @VP)/\(type_of% @VQ)/\(type_of% @VR)/\(type_of% @Dv)/\(type_of% @Dw)/\(type_of% @An)/\(type_of% @Oq)/\(type_of% @Ot):=⟨@Oa,@Ob,@Oc,@HS,@Du,@HU,@HV,@Oi,@Oj,@Ol,@VN,@VO,@VP,@VQ,@VR,@Dv,@Dw,@An,@Oq,@Ot⟩
theorem aJ:(type_of% @Ou)/\(type_of% @Ov)/\(type_of% @Dy)/\(type_of% @OO)/\(type_of% @OP)/\(type_of% @OQ)/\(type_of% @OS)/\(type_of% @OT)/\(type_of% @OU):=⟨@Ou,@Ov,@Dy,@OO,@OP,@OQ,@OS,@OT,@OU⟩
section
variable{X:Cx}{E:Str->Hp->Prop}{pos:Pos}
theorem VW{st:Stmt}:PS X st (tS X.K E fun _=>.bad):=fun pins s σ H De I ⟨g,env,os,r,m⟩=>m.elim
end
theorem DF:um .non .non=some (.bl false):=rfl
def Kep(fs xs:List Addr)(h h':Heap):Prop:=∀b o,h.get? b=some o->b∉xs->(b∉fs->h'.get? b=some o)/\∃sl,h'.get? b=some {o with slots:=sl}
structure Exc(h:Heap)(e T C:Addr)(fl:Value):Prop where
 at_:∃vs,h.get? e=some {cls:=.ref C,data:=.fields vs}/\vs[1]?=some (.ref T)
 ne:T≠e
 tb:∃oT ts,h.get? T=some oT/\oT.data=.fields ts/\ts[3]?=some fl
section
variable{P:Program}{w:World}{H H':Hp}{h h1 h2:Heap}{fs fs' xs:List Addr}
def ZD(P:Program)(w:World):GD:=fun outer H s E ev s'=>∃e T C H',ev=.ref e/\Exc s'.heap e T C .none/\s.heap.get? e=none/\s.heap.get? T=none/\H' e=none/\H' T=none/\s'.os=s.os/\AllBare s'.gens/\
 Un (Bt outer) [] H H' s.heap s'.heap/\pU P w H' s'.heap/\E (.ref C) none H'
end
def ZE(K:PySem.W.Frag)(n:Str):Value:=match nsIn K mainGlobals n with
 |some (some v)=>v
 |_=>.none
section
variable{P:Program}{w:World}{K:PySem.W.Frag}{mg:Str->Option Value}{base:Heap}{N:List Str}{qual:Str}{scope:Scope}{f:Addr}{cd:Value}{A:Around}{outer:List Env}{s:Shared}{H:Hp}{E:XK}
abbrev EW(K:PySem.W.Frag)(E:XK):Str->Hp->Prop:=fun n H'=>E (ZE K n) none H'
end
abbrev OkX(P:Program)(w:World)(K:PySem.W.Frag)(mg:Str->Option Value)(base:Heap)(k:Nat)(f:Addr)(fd:FuncData)(ps:List Str)(m:List D->R D):Prop:=cu P w K mg base (ZD P w) k f fd ps (Dh K (ZE K) m)
abbrev ad7(P:Program)(w:World)(K:PySem.W.Frag)(mg:Str->Option Value)(base:Heap)(k:Nat)(f:Addr)(fd:FuncData)(ps:List Str)(m:List D->R (List D)):Prop:=cu P w K mg base (ZD P w) k f fd ps (K5 K (ZE K) m)
section
variable{P:Program}{w:World}{K:PySem.W.Frag}{mg:Str->Option Value}{base:Heap}
variable{x:Str}{st:Stmt}{f:Addr}{fd:FuncData}{N ps:List Str}{k:Nat}{b:DE->R Out}
variable(S:aD N ps (ae st))(d:Df K mg x st ps f fd)
  (hb:∀(cdv:Value)(A:Around)(outer:List Env)(s:Shared)(H:Hp)(E:XK),aZ k (A.deeper (envOfC x (ae st) s.heap.objs.size f cdv))->ql (qo (ZD P w) P w K mg base N x (ae st) f cdv A outer s H E) (bH st) (tS K (EW K E) b))
include S d hb
end
abbrev Xq(X:Cx)(e:Addr):Cx:={X with A:=X.A.mark (some (.ref e)),calm:=false,xe:=fun _ _=>False}
section
variable{X:Cx}{E:Str->Hp->Prop}{pos:Pos}
def VX(x y:D):Option D:=match x,y with
 |.bl a,.bl b=>some (.bl (a==b))
 |x,.non=>Q9 x .non
 |_,_=>none
def zd(x y:D):Option D:=match x,y with
 |.bl a,.bl b=>some (.bl (a !=b))
 |x,.non=>um x .non
 |_,_=>none
def Xx(ne:Bool):R2:=fun x y H Q=>(∃a b,x=.bl a/\y=.bl b/\Q (.bl (if ne then a !=b else a==b)) H)\/(y=.non/\Q (.bl (if ne then !decide (x=.non)else decide (x=.non))) H)
theorem OV:qJ X (compareOp .Is) (Xx false):=by
 intro pins s σ H x y v u Q I rx ry h
 rcases h with⟨a,b,rfl,rfl,q⟩|⟨rfl,q⟩
 ·cases rx;cases ry
  exact is_bool ⟨.bl _,H,I,rfl,q⟩
 ·exact Hd pins s σ H x .non v u Q I rx ry ⟨rfl,q⟩
theorem H0:qJ X (compareOp .IsNot) (Xx true):=by
 intro pins s σ H x y v u Q I rx ry h
 rcases h with⟨a,b,rfl,rfl,q⟩|⟨rfl,q⟩
 ·cases rx;cases ry
  exact isnot_bool ⟨.bl _,H,I,rfl,q⟩
 ·exact yS pins s σ H x .non v u Q I rx ry ⟨rfl,q⟩
theorem Ia:lj X (Xx false) VX:=fun x y d e=>by
 unfold VX at e
 split at e
 ·cases e
  exact⟨_,rfl,fun H v w Q h1 h2 q=>.inl ⟨_,_,h1,h2,q⟩⟩
 ·obtain⟨z,hz,k⟩:=Mb (X:=X) _ _ d e
  exact⟨z,hz,fun H v w Q h1 h2 q=>.inr (k H v w Q h1 h2 q)⟩
 ·cases e
theorem FN:lj X (Xx true) zd:=fun x y d e=>by
 unfold zd at e
 split at e
 ·cases e
  exact⟨_,rfl,fun H v w Q h1 h2 q=>.inl ⟨_,_,h1,h2,q⟩⟩
 ·obtain⟨z,hz,k⟩:=vZ (X:=X) _ _ d e
  exact⟨z,hz,fun H v w Q h1 h2 q=>.inr (k H v w Q h1 h2 q)⟩
 ·cases e
end
theorem fQ{K:PySem.W.Frag}{P:Addr->Prop}{H:Hp}:∀{ns:List Int}{vs:List V},IsL K P H (aK ns) vs->vs=ns.map V.int
 |[],_,h=>h
 |n::ns,_,⟨v,r,e,p,q⟩=>by
  have p':v=.int n:=p
  rw[e,p',fQ q];rfl
theorem DG{K:PySem.W.Frag}{P:Addr->Prop}{H:Hp}:∀(ns:List Int),IsL K P H (aK ns) (ns.map V.int)
 |[]=>rfl
 |n::ns=>⟨_,_,rfl,rfl,DG ns⟩
def yk(xs:List D):Option D:=(Dz xs).map fun ns=>.int ns.sum
def sortI(ns:List Int):List Int:=ns.mergeSort (fun a b=>decide (a<=b))
def Ar(xs:List D):R (List D):=match Dz xs with
 |some ns=>if ns.length<64 then .ok (aK (sortI ns))else .bad
 |none=>.bad
def nZ(xs:List D):D->R D
 |.int k=>match Dz xs with
  |some ns=>if k∈ns then .ok (.int (ns.idxOf k:Nat))else .bad
  |none=>.bad
 |_=>.bad
theorem Rj:bootBuiltins "sum"=some (.builtin "sum"):=by decide +kernel
theorem FO:bootBuiltins "sorted"=some (.builtin "sorted"):=by decide +kernel
theorem Au{a b:List Int}(p:a.Perm b)(o:a.Pairwise (·<=·)):a=sortI b:=by
 refine PySem.W.lks_uniq (p.trans (List.mergeSort_perm b _).symm) o ?_
 have h:=List.pairwise_mergeSort (le:=fun a b:Int=>decide (a<=b)) (fun a b c h1 h2=>by simp only [decide_eq_true_eq]at h1 h2⊢;omega) (fun a b=>by simp only [or_eq_true,decide_eq_true_eq];omega) b
 exact h.imp fun h=>by simpa using h
section
variable{X:Cx}{E:Str->Hp->Prop}{pos:Pos}
theorem VY{p:Pos}{a:Expr}{f:DE->R (List D)}(hc:X.calm=true)(hm:X.mg "sum"=none)(ha:PE X a (tL X.K E f))(hg:Gl X "sum":=by rfl)
  (he:starEach [a] X.env=(false,eval a X.env)::starEach [] X.env:=by rfl)(hpl:(backTo pos (starEach [] X.env)).any (·.1)=false:=by rfl):PE X (.Call (.Name "sum" p) [a] [] pos) (tD X.K E fun env=>(f env).bind fun xs=>R.of (yk xs)):=by
 refine imp (i7 (r:=fun xs H Q=>∃(l:Addr)(ns:List Int),xs=[.ref l]/\cX X.K H l (ns.map V.int)/\Q (.int ns.sum) H) ?_ hg hm Rj (aB ha aN he) (by decide) (by decide) he hpl) fun σ H Q ⟨g,env,os,r,m⟩=>⟨g,env,os,r,m.bind.mono fun xs _ q l vs H' s hl i=>?_⟩
 ·intro pins s σ H xs us Q I r h
  obtain⟨l,ns,rfl,hl,q⟩:=h
  obtain⟨u,rfl,ru⟩:=vals1 r
  have e:u=.ref l:=ru
  subst e
  obtain⟨its,rv,pl,hz⟩:=I.list hl
  have ia:=intsAre_of rv
  obtain⟨ys,hx⟩:=ia.allInts.items
  have Ib:s.heap.IsList l (intItems ys):=hx▸pl.isList
  have hh:X.A.handled=none:=I.ok.hd hc
  have e1:ns=ys.toList.map (·.1):=by
   rw[<-nums_intItems,<-hx]
   exact(show numsOf its.toArray.toList=ns from ia.numsOf).symm
  refine sum_intListG hh Ib fun h' tk t' hk=>?_
  have e2:preSum (numAt ys) ys.size=ns.sum:=by
   rw[preSum_eq,take_of_length_le (by simp),e1]
  rw[e2]
  exact⟨.int _,H,I.kept (s:=s) (t':=tk) hk,⟨_,rfl⟩,q⟩
 ·obtain⟨d,e,q2⟩:=q.of
  unfold yk at e
  cases z:Dz xs with
  |none=>rw[z]at e;cases e
  |some ns=>
   rw[z]at e
   have ex:=we z
   subst ex
   have ev:=fQ i
   subst ev
   cases e
   exact⟨l,ns,rfl,hl,q2 _ H' s rfl⟩
theorem Mj{p:Pos}{a:Expr}{f:DE->R (List D)}(hm:X.mg "sorted"=none)(ha:PE X a (tL X.K E f))(hg:Gl X "sorted":=by rfl)
  (he:starEach [a] X.env=(false,eval a X.env)::starEach [] X.env:=by rfl)(hpl:(backTo pos (starEach [] X.env)).any (·.1)=false:=by rfl):PE X (.Call (.Name "sorted" p) [a] [] pos) (tF X.K E fun env=>(f env).bind Ar):=by
 refine imp (i7 (r:=fun xs H Q=>∃(l:Addr)(ns:List Int),xs=[.ref l]/\cX X.K H l (ns.map V.int)/\ns.length<64/\∀p,H p=none->Q (.ref p) (upd H p (.lst ((sortI ns).map V.int)))) ?_ hg hm FO (aB ha aN he) (by decide) (by decide) he hpl) fun σ H Q ⟨g,env,os,r,m⟩=>⟨g,env,os,r,m.bind.mono fun xs _ q l vs H' s hl i=>?_⟩
 ·intro pins s σ H xs us Q I r h
  obtain⟨l,ns,rfl,hl,h64,q⟩:=h
  obtain⟨u,rfl,ru⟩:=vals1 r
  have e:u=.ref l:=ru
  subst e
  obtain⟨its,rv,pl,hz⟩:=I.list hl
  have ia:=intsAre_of rv
  refine PyProof.Rows.sorted_ints pl.isList ia (by rw[IntsAre.length ia];exact h64) fun out Ub a1 a2 a3=>?_
  have es:=Au a2 a3
  subst es
  obtain⟨n,hn⟩:=sortedAll_at s.heap its out
  refine⟨.ref _,_,I.laid (a:=s.heap.objs.size+1) (o:=.lst ((sortI ns).map V.int)) (t':=s.toks) (fun _ _=>sortedAll_old) (le_succ _) ⟨?_,out.toList,n,sM a1,?_⟩,rfl,q _ (I.hok.fresh (le_succ _))⟩
  ·rw[length_map,a2.length_eq]
   exact Nat.le_of_lt (lt_trans h64 (by decide))
  ·rw[hn]
 ·unfold Ar at q
  split at q
  ·rename_i ns z
   split at q
   ·rename_i c
    have ex:=we z
    subst ex
    have ev:=fQ i
    subst ev
    refine⟨l,ns,rfl,hl,c,fun p hp=>?_⟩
    obtain⟨b1,b2,b3,b4⟩:=FD r s hp (DG (K:=X.K) (P:=g.P os) (H:=H') (sortI ns))
    exact q p _ _ b1 b2 b3 b4
   ·exact q.elim
  ·exact q.elim
def Rk(K:PySem.W.Frag):V->List V->Hp->VK->Prop:=fun x xs H Q=>∃(l:Addr)(ns:List Int)(k:Int),x=.ref l/\xs=[.int k]/\cX K H l (ns.map V.int)/\k∈ns/\Q (.int (ns.idxOf k:Nat)) H
theorem Ic:Xj X "list.index" (Rk X.K):=by
 intro pins s σ H x xs v us Q I rx r h
 obtain⟨l,ns,k,rfl,rfl,hl,hk,q⟩:=h
 obtain⟨u,rfl,t,ru⟩:=vals1 r
 subst ru
 cases rx
 obtain⟨its,rv,pl,hz⟩:=I.list hl
 have ia:=intsAre_of rv
 obtain⟨o,n,h1,h2,h3,h4⟩:=pl
 cases o
 simp only at h2 h3 h4
 subst h2 h3 h4
 have hlen:=ia.length
 have hj:ns.idxOf k<ns.length:=List.idxOf_lt_length_iff.mpr hk
 have hz2:ns.length<=sizeLine:=by simpa using hz
 refine call_meets PySem.F.slot_list_index ⟨_,h1,rfl⟩ PySem.F.entry_list_index (PySem.F.args_list_index_2 _ _)
  (SeqAt.list_indexAt l its.toArray n none _ (.int k t) (isInt k) (ns.idxOf k) (by simpa[hlen]using hj) (by have h63:=qm;omega) ?_ ?_) ⟨h1,fun y hy=>(eq_isInt k t ia y (by simpa using hy)).at _ _,⟨.int _,H,I.tok _,⟨_,rfl⟩,q⟩⟩
 ·show isInt k its[ns.idxOf k]=true
  rw[isInt_at k ia _ (by omega) hj]
  simpa using getElem_idxOf hj
 ·intro j hjs hlt
  show isInt k its[j]=false
  rw[isInt_at k ia j (by simpa using hjs) (by simp at hjs;omega)]
  exact ne_of_lt_idxOf hlt _
theorem Ie{o e:Expr}{apos bA:Pos}{fo:DE->R (List D)}{f:DE->R D}(ho:PE X o (tL X.K E fo))(he:PE X e (tB X.K E f))
  (hbase:attributeBase o "index" X.env (eval o X.env)=eval o X.env:=by rfl)
  (hfew:((backTo bA (starEach [e] X.env)).all (fun x=> !x.1)&&(backToKw bA (keywordEach [] X.env)).all (fun x=>x.1.isSome)
   &&decide ([e].length+([]:List Keyword).length+(if([]:List Keyword).isEmpty then 0 else 1)<30))=true:=by rfl)
  (hline:(apos.endLine==bA.line)=true:=by rfl)(hst:starEach [e] X.env=(false,eval e X.env)::starEach [] X.env:=by rfl)(hplain:(backTo bA (starEach [] X.env)).any (·.1)=false:=by rfl):
  PE X (.Call (.Attribute o "index" apos) [e] [] bA) (tD X.K E fun env=>(fo env).bind fun xs=>(f env).bind fun k=>nZ xs k):=
 imp (ug plainAttrs_list PySem.F.slot_list_index PySem.F.type_list_index Ic ho (aB he aN hst) hbase hfew hline hst hplain) fun σ H Q ⟨g,env,os,r,m⟩=>⟨g,env,os,r,m.bind.mono fun xs _ m1 l vs H1 s1 hl i=>⟨.inl ⟨rfl,vs,hl⟩,g,env,os,r.same s1,m1.bind.mono fun k _ q v H2 s2 i2=>by
  unfold nZ at q
  split at q
  ·rename_i kk _
   split at q
   ·rename_i ns z
    split at q
    ·rename_i c
     have ex:=we z
     subst ex
     have ev:=fQ i
     subst ev
     have e2:v=.int kk:=i2
     subst e2
     exact⟨l,ns,kk,rfl,rfl,s2.seq hl,c,q _ H2 (s1.trans s2) rfl⟩
    ·exact q.elim
   ·exact q.elim
  ·exact q.elim⟩⟩
end
def Ig(lo c:Int)(n:Nat):List D:=(range n).map fun i=>.int (lo+(i:Nat)*c)
abbrev RC(a b c:Int):Prop:= -1000000<=a/\a<=1000000/\ -1000000<=b/\b<=1000000/\c≠0/\ -1000000<=c/\c<=1000000
def Ih:List D->R (List D)
 |[.int a,.int b,.int c]=> @ite _ (RC a b c) (propDecidable _) (.ok (Ig a c (Builtin.Range.rangeSize a b c).toNat)) .bad
 |_=>.bad
theorem qY{a b c:Int}(h:RC a b c):0<=Builtin.Range.rangeSize a b c/\Builtin.Range.rangeSize a b c<=2000000:=by
 unfold Builtin.Range.rangeSize
 have e:∀x y:Int,0<=x->x<2000000->1<=y->0<=x/y/\x/y<2000000:=fun x y h1 h2 h3=>⟨Int.ediv_nonneg h1 (by omega),Int.lt_of_le_of_lt (Int.ediv_le_self _ h1) h2⟩
 split
 ·split
  ·have:=e (b-a-1) c (by omega) (by omega) (by omega)
   omega
  ·omega
 ·split
  ·have:=e (a-b-1) (-c) (by omega) (by omega) (by omega)
   omega
  ·omega
theorem Ml{a b c:Int}(h:RC a b c):Builtin.Range.small a b c=true:=by
 have hs:=qY h
 unfold Builtin.Range.small
 simp only [Builtin.Range.rangeFitsLong,and_eq_true,or_eq_true,decide_eq_true_eq,beq_iff_eq]
 refine⟨by omega,.inr ?_⟩
 split<;>simp only [and_eq_true,decide_eq_true_eq]<;>omega
section
variable{X:Cx}{E:Str->Hp->Prop}{pos:Pos}{tg:Expr}
theorem IsL.Rl {K:PySem.W.Frag}{P:Addr->Prop}{H:Hp}{d d2 d3:D}{vs:List V}(h:IsL K P H [d,d2,d3] vs):∃v w z,vs=[v,w,z]/\Is K P H d v/\Is K P H d2 w/\Is K P H d3 z:=by
 obtain⟨v,r,rfl,p,q⟩:=h
 obtain⟨w,z,rfl,p2,p3⟩:=IsL.QO q
 exact⟨v,w,z,rfl,p,p2,p3⟩
theorem vals3{x y z:V}{us:List Value}(r:Vals [x,y,z] us):∃u v w,us=[u,v,w]/\RelV x u/\RelV y v/\RelV z w:=by
 cases r with
 |cons p q=>
  obtain⟨v,w,rfl,p2,p3⟩:=vals2 q
  exact⟨_,v,w,rfl,p,p2,p3⟩
theorem Mm{K:PySem.W.Frag}{P:Addr->Prop}{H:Hp}{lo c:Int}{n:Nat}:IsL K P H (Ig lo c n) ((range n).map fun i=>V.int (lo+(i:Nat)*c)):=by
 unfold Ig
 induction (range n)with
 |nil=>rfl
 |cons x r ih=>exact⟨_,_,rfl,rfl,ih⟩
theorem wg{acc:List Value}{lo c:Int}{n:Nat}(h1:acc.length=n)(h2:∀(j:Nat)(v:Value),acc[j]?=some v->∃t,v=.int (lo+(j:Nat)*c) t):Vals ((range n).map fun i=>V.int (lo+(i:Nat)*c)) acc:=by
 have gen:∀(l:List Value)(k:Nat),(∀(j:Nat)(v:Value),l[j]?=some v->∃t,v=.int (lo+((k+j:Nat):Int)*c) t)->Vals ((range' k l.length).map fun i=>V.int (lo+(i:Nat)*c)) l:=by
  intro l
  induction l with
  |nil=>intro k _;exact .nil
  |cons x r ih=>
   intro k hk
   rw[length_cons,range'_succ,map_cons]
   refine .cons ?_ (ih (k+1) fun j v e=>?_)
   ·obtain⟨t,e⟩:=hk 0 x (by simp)
    exact⟨t,e⟩
   ·obtain⟨t,e⟩:=hk (j+1) v (by simpa using e)
    exact⟨t,by rw[e,show k+(j+1)=k+1+j by omega]⟩
 subst h1
 rw[List.range_eq_range']
 exact gen acc 0 fun j v e=>by
  obtain⟨t,q⟩:=h2 j v e
  exact⟨t,by rw[q,Nat.zero_add]⟩
theorem Mn{a b c:Expr}{p p2 qr:Pos}{f:DE->R (List D)}(hc:X.calm=true)(HN:X.mg "list"=none)(VI:X.mg "range"=none)(ha:PA X [a,b,c] (sQ X.K E f))(VJ:Gl X "list":=by rfl)(hgr:Gl X "range":=by rfl)
  (hs:starEach [a,b,c] X.env=(false,eval a X.env)::starEach [b,c] X.env:=by rfl)(Rm:(backTo qr (starEach [b,c] X.env)).any (·.1)=false:=by rfl)(he:starEach [.Call (.Name "range" p2) [a,b,c] [] qr] X.env=(false,eval (.Call (.Name "range" p2) [a,b,c] [] qr) X.env)::starEach [] X.env:=by rfl)(hpl:(backTo pos (starEach [] X.env)).any (·.1)=false:=by rfl):
  PE X (.Call (.Name "list" p) [.Call (.Name "range" p2) [a,b,c] [] qr] [] pos) (tF X.K E fun env=>(f env).bind Ih):=by
 intro pins s σ H Q I h
 obtain⟨g,env,os,r,m⟩:=h
 refine wpAny_Call_Name_kw (iD I VJ HN mz ?_)
 refine PyProof.Rows.callWith_type1 ?_ he hpl
 rw[he]
 refine Calls.spliced_cons ?_
 refine Call_ (iD I hgr VI wb (PyProof.Rows.callWith_type1 (cj (ha qr pins s σ H _ I ⟨g,env,os,r,m.bind.mono fun ds _ q vs H1 s1 i1=>(⟨ds,s1,i1,q⟩:∃ds,aM H H1/\IsL X.K Tr H1 ds vs/\Good E g.H₀ (Ih ds) _)⟩) fun us s1 ⟨vs,H1,I1,r1,ds,sm,i1,q⟩=>?_) hs Rm))
 unfold Ih at q
 split at q
 ·rename_i x y z
  split at q
  ·rename_i h
   obtain⟨v1,v2,v3,rfl,k1,k2,k3⟩:=IsL.Rl i1
   have Xo:v1=.int x:=k1
   have k2':v2=.int y:=k2
   have k3':v3=.int z:=k3
   subst Xo k2' k3'
   obtain⟨u1,u2,u3,rfl,⟨t1,rfl⟩,⟨t2,rfl⟩,⟨t3,rfl⟩⟩:=vals3 r1
   refine call_range_3 h.2.2.2.2.1 ?_ (.inl (PyProof.noPylong_small (by omega)))
   have I2:Inv X pins σ H1 {s1 with heap:=s1.heap.push {cls:=.type "range",data:=.fields #[.int x t1,.int y t2,.int z t3]},toks:=s1.toks}:=I1.kept fun b o e=>Heap.get?_push_of_some _ e
   refine Calls.spliced_nil ?_
   have hd:X.A.handled=none:=I.ok.hd hc
   have hn2:=qY h
   have hsz:Builtin.Range.rangeSize x y z=((Builtin.Range.rangeSize x y z).toNat:Nat):=by omega
   refine call_list_range hd (IsRange.new ..) (Ml h) hsz (by omega) fun h' tk nM c' hk hl hit=>?_
   obtain⟨hi1,hi2⟩:=hit
   have hv:Vals ((range (Builtin.Range.rangeSize x y z).toNat).map fun i=>V.int (x+(i:Nat)*z)) nM.toList:=wg (by simpa using hi1) fun i v e=>hi2 i v (by simpa using e)
   have hlen:((range (Builtin.Range.rangeSize x y z).toNat).map fun i=>V.int (x+(i:Nat)*z)).length<=sizeLine:=by
    rw[length_map,length_range]
    exact le_trans (show(Builtin.Range.rangeSize x y z).toNat<=2000000 by omega) (by decide)
   refine⟨.ref _,upd H1 _ (.lst ((range (Builtin.Range.rangeSize x y z).toNat).map fun i=>V.int (x+(i:Nat)*z))),I2.laid (a:=_) hk (Nat.le_refl _) ⟨hlen,nM.toList,c',hv,by simpa using hl⟩,rfl,?_⟩
   have hn:H1 (s1.heap.push {cls:=.type "range",data:=.fields #[.int x t1,.int y t2,.int z t3]}).objs.size=none:=I2.hok.fresh (Nat.le_refl _)
   exact q _ _ _ (sm.trans (aO hn _)) (sm.free hn) ar Mm
  ·exact q.elim
 ·exact q.elim
end
def cl2(X:Cx)(scope:Scope)(C:Addr):List (Str×Addr):=cellsFrom (C+1) scope.names (zQ X.env.cells scope.names [])
def ab0(X:Cx)(scope:Scope)(N:List Str)(s:Shared)(H:Hp)(fp:List Addr)(C:Addr)(pl:List (Addr×Obj)):Cx where
 prog:=X.prog
 w:=X.w
 K:=X.K
 mg:=X.mg
 base:=X.base
 A:=X.A
 N:=N
 s₀:=s
 H₀:=H
 env:=compEnvC scope (cl2 X scope C) C X.env
 outer:=X.stack
 stack:=X.stack
 ex:=fp
 fn:=fun x=>scope.names.lookup x==some NameKind.cell
 calm:=X.calm
 pn:=pl
 xe:=fun _ _=>False
structure VZ(X:Cx)(scope:Scope)(N:List Str)(nt:Nat)(caps:List Nat):Prop where
 kind:scope.kind=.function
 apart:∀x,scope.names.lookup x=some .free->(x,NameKind.cell)∉scope.names
 names:∀y∈scope.names,y.2=.local->scope.names.lookup y.1=some .local
 free:∀y∈scope.names,y.2=.free->X.env.kindOf y.1=some .cell\/X.env.kindOf y.1=some .free
 len:N.length=nt+caps.length
 nd:N.Nodup
 caps:∀(j i:Nat),caps[j]?=some i->∃x,N[nt+j]?=some x/\X.N[i]?=some x/\scope.names.lookup x=some .free/\x8 X.env.scope x
section
variable{K:PySem.W.Frag}{g:Gh}{env:DE}{σ:St}{H H':Hp}{os:List Addr}
theorem kJ{α:Type}{l:List α}{i j:Nat}{x y:α}(e:(l.set i x)[j]?=some y)(h:y≠x):i≠j/\l[j]?=some y:=by
 by_cases hj:i=j
 ·subst hj
  exact(h (bu e)).elim
 ·rw[getElem?_set_ne hj]at e
  exact⟨hj,e⟩
theorem kK:∀{a b:List Addr},a.map V.ref=b.map V.ref->a=b
 |[],[],_=>rfl
 |[],_::_,h=>by cases h
 |_::_,[],h=>by cases h
 |x::a,y::b,h=>by
  injection h with h1 h2
  injection h1 with h1
  rw[h1,kK h2]
theorem Rel.Rn (r:Rel K g env σ H os){l:List Addr}(s:aM H H')(hn:∀a∈l,H a=none):Ext (g.P os) (g.P (l++os)) H H':=
 ⟨fun b o p e=>⟨p.1,fun hm=>by
  rcases mem_append.mp hm with z|z
  ·rw[hn b z]at e;cases e
  ·exact p.2 z⟩,fun b o _ e=>s b o e⟩
theorem Rel.ZF (r:Rel K g env σ H os)(s:aM H H')(i:Nat){nss:List (List Int)}{a:Addr}{as:List Addr}(hn:∀b∈a::as,H b=none)(nd:(a::as).Nodup)(hl:as.length=nss.length)(hH:H' a=some (.lst (as.map V.ref)))
  (hi:∀(k:Nat)(b:Addr)(ns:List Int),as[k]?=some b->nss[k]?=some ns->H' b=some (.lst (ns.map V.int))):
  Rel K g (env.set i (.deep nss)) (σ.set i (some (.ref a))) H' ((a::as)++os):=by
 have ap:=r.Rn s hn
 have f:∀(j:Nat)(sl:Sl),(env.set i (Sl.deep nss))[j]?=some sl->sl≠.deep nss->i≠j/\env[j]?=some sl:=fun j sl q hn=>kJ q hn
 have dp:Dp H' ((a::as)++os) a as nss:=⟨by simp,hH,hl,nd,fun k b ns e1 e2=>⟨mem_append_left _ (mem_cons_of_mem _ (mem_of_getElem? e1)),hi k b ns e1 e2⟩⟩
 have hnew:∀x∈a::as,x∉os:=fun x hx hm=>by
  obtain⟨o,ho⟩:=(r.new x hm).2
  rw[hn x hx]at ho
  cases ho
 refine⟨by simp[r.len],r.ext.trans s,fun j d q=>?_,fun j xs q=>?_,fun j k xs ys b q1 q2 q3 q4=>?_,fun b hb=>?_,fun j v q=>?_,?_⟩
 ·obtain⟨hj,q⟩:=f j _ q (fun z=>nomatch z)
  obtain⟨v,h1,h2⟩:=r.val j d q
  exact⟨v,by rw[getElem?_set_ne hj];exact h1,Is.ext ap _ _ h2⟩
 ·obtain⟨hj,q⟩:=f j _ q (fun z=>nomatch z)
  obtain⟨b,vs,h1,h2,h3,h4⟩:=r.own j xs q
  exact⟨b,vs,by rw[getElem?_set_ne hj];exact h1,mem_append_right _ h2,s _ _ h3,IsL.ext ap _ _ h4⟩
 ·obtain⟨hj,q1⟩:=f j _ q1 (fun z=>nomatch z)
  obtain⟨hk,q2⟩:=f k _ q2 (fun z=>nomatch z)
  rw[getElem?_set_ne hj]at q3
  rw[getElem?_set_ne hk]at q4
  exact r.inj j k xs ys b q1 q2 q3 q4
 ·rcases mem_append.mp hb with z|z
  ·exact⟨r.ext.free (hn b z),(dp.mem b z).2⟩
  ·obtain⟨h1,o,h2⟩:=r.new b z
   exact⟨h1,o,s _ _ h2⟩
 ·obtain⟨hj,q⟩:=f j _ q (fun z=>nomatch z)
  rw[getElem?_set_ne hj]
  exact r.raw j v q
 ·obtain⟨A,dd⟩:=r.Hr
  refine⟨fun j=>if j=i then a::as else A j,fun j p7 q=>?_,fun j p7 k xs b q1 q2 q3=>?_,fun j k p7 Ro hjk q1 q2 x hx=>?_⟩
  ·by_cases hj:j=i
   ·subst hj
    have z:=bu q
    cases z
    exact⟨a,as,if_pos rfl,by rw[getElem?_set_self (by rw[r.len];exact yg q)],dp⟩
   ·have q':=q
    rw[getElem?_set_ne (Ne.symm hj)]at q'
    obtain⟨b,bs,h1,h2,h3⟩:=dd.dp j p7 q'
    refine⟨b,bs,by rw[if_neg hj];exact h1,by rw[getElem?_set_ne (Ne.symm hj)];exact h2,h3.to fun x hx=>?_⟩
    obtain⟨z1,o,z2⟩:=h3.mem x hx
    exact⟨mem_append_right _ z1,by rw[s x o z2,z2]⟩
  ·obtain⟨hk,q2⟩:=f k _ q2 (fun z=>nomatch z)
   rw[getElem?_set_ne hk]at q3
   show b∉if j=i then a::as else A j
   by_cases hj:j=i
   ·rw[if_pos hj]
    obtain⟨c,vs,h1,h2,_⟩:=r.own k xs q2
    rw[q3]at h1
    cases h1
    exact fun z=>hnew b z h2
   ·rw[if_neg hj]
    rw[getElem?_set_ne (Ne.symm hj)]at q1
    exact dd.ow j p7 k xs b q1 q2 q3
  ·show x∉if k=i then a::as else A k
   have Ii:x∈if j=i then a::as else A j:=hx
   by_cases hj:j=i
   ·have hk:k≠i:=fun z=>hjk (by rw[hj,z])
    rw[if_pos hj]at Ii
    rw[if_neg hk]
    rw[getElem?_set_ne (Ne.symm hk)]at q2
    exact fun z=>hnew x Ii (dd.mem q2 x z).1
   ·rw[if_neg hj]at Ii
    rw[getElem?_set_ne (Ne.symm hj)]at q1
    by_cases hk:k=i
    ·rw[if_pos hk]
     exact fun z=>hnew x z (dd.mem q1 x Ii).1
    ·rw[if_neg hk]
     rw[getElem?_set_ne (Ne.symm hk)]at q2
     exact dd.dj j k p7 Ro hjk q1 q2 x Ii
theorem Rel.ZG (r:Rel K g env σ H os){i:Nat}{nss:List (List Int)}(e:env[i]?=some (.deep nss)){a:Addr}{as:List Addr}(hσ:σ[i]?=some (some (.ref a)))(ha:H a=some (.lst (as.map V.ref))){k:Nat}{b:Addr}{ns:List Int}(hk:as[k]?=some b)(hns:k<nss.length)(Ub:List Int):
  b∈os/\Rel K g (env.set i (.deep (nss.set k Ub))) σ (upd H b (.lst (Ub.map V.int))) os:=by
 obtain⟨A,dd⟩:=r.Hr
 obtain⟨a0,xw,hA,h1,h3⟩:=dd.dp i nss e
 rw[hσ]at h1
 cases h1
 have has:xw=as:=by
  have z:=h3.ha
  rw[ha]at z
  have z2:as.map V.ref=xw.map V.ref:=by injection z with z;injection z
  exact(kK z2).symm
 subst has
 have qx:b∈os:=(h3.it k b nss[k] hk (getElem?_eq_getElem hns)).1
 have V0:b∈A i:=by rw[hA];exact mem_cons_of_mem _ (mem_of_getElem? hk)
 refine⟨qx,?_⟩
 have ex:Ext (g.P os) (g.P os) H (upd H b (.lst (Ub.map V.int))):=⟨fun _ _ p _=>p,fun c o p q=>by rw[ai (fun z=>p.2 (by rw[z];exact qx))];exact q⟩
 have f:∀(j:Nat)(sl:Sl),(env.set i (Sl.deep (nss.set k Ub)))[j]?=some sl->sl≠.deep (nss.set k Ub)->i≠j/\env[j]?=some sl:=fun j sl q hn=>kJ q hn
 have ZI:b≠a:=fun z=>(nodup_cons.mp h3.nd).1 (by rw[<-z];exact mem_of_getElem? hk)
 refine⟨by simp[r.len],fun c o q=>?_,fun j d q=>?_,fun j xs q=>?_,fun j k xs ys c q1 q2 q3 q4=>?_,fun c hc=>?_,fun j v q=>?_,?_⟩
 ·rw[ai (fun z=>by rw[z,(r.new b qx).1]at q;cases q)]
  exact r.ext c o q
 ·obtain⟨hj,q⟩:=f j _ q (fun z=>nomatch z)
  obtain⟨v,h1,h2⟩:=r.val j d q
  exact⟨v,h1,Is.ext ex _ _ h2⟩
 ·obtain⟨hj,q⟩:=f j _ q (fun z=>nomatch z)
  obtain⟨c,vs,h1,h2,V1,h4⟩:=r.own j xs q
  have ZJ:c≠b:=fun z=>dd.ow i nss j xs c e q h1 (by rw[z];exact V0)
  exact⟨c,vs,h1,h2,by rw[ai ZJ];exact V1,IsL.ext ex _ _ h4⟩
 ·obtain⟨hj,q1⟩:=f j _ q1 (fun z=>nomatch z)
  obtain⟨hk,q2⟩:=f k _ q2 (fun z=>nomatch z)
  exact r.inj j k xs ys c q1 q2 q3 q4
 ·obtain⟨z1,o,z2⟩:=r.new c hc
  refine⟨z1,?_⟩
  by_cases z:c=b
  ·exact⟨_,by rw[z];exact ar⟩
  ·exact⟨o,by rw[ai z];exact z2⟩
 ·obtain⟨hj,q⟩:=f j _ q (fun z=>nomatch z)
  exact r.raw j v q
 ·have h3k:∀(m:Nat),xw[m]?=some b->m=k:=fun m hm=>by
   have ZK:=(nodup_cons.mp h3.nd).2
   have hm1:=(List.getElem?_eq_some_iff.mp hm).1
   have hk1:=(List.getElem?_eq_some_iff.mp hk).1
   exact(List.getElem_inj ZK).mp (by rw[(List.getElem?_eq_some_iff.mp hm).2,(List.getElem?_eq_some_iff.mp hk).2])
  refine⟨A,fun j p7 q=>?_,fun j p7 m xs c q1 q2 q3=>?_,fun j m p7 Ro Uc q1 q2 x hx=>?_⟩
  ·by_cases hj:i=j
   ·subst hj
    have z:=bu q
    cases z
    refine⟨a,xw,hA,hσ,h3.ma,by rw[ai (Ne.symm ZI)];exact h3.ha,by rw[length_set];exact h3.len,h3.nd,fun m c ms e1 e2=>?_⟩
    by_cases hm:c=b
    ·subst hm
     have ZL:=h3k m e1
     subst ZL
     rw[getElem?_set_self hns]at e2
     cases e2
     exact⟨qx,ar⟩
    ·have ZL:k≠m:=fun z=>hm (by rw[z]at hk;rw[hk]at e1;cases e1;rfl)
     rw[getElem?_set_ne ZL]at e2
     rw[ai hm]
     exact h3.it m c ms e1 e2
   ·rw[getElem?_set_ne hj]at q
    obtain⟨c,cs,z1,z2,z3⟩:=dd.dp j p7 q
    refine⟨c,cs,z1,z2,z3.to fun x hx=>?_⟩
    have hxb:x≠b:=fun z=>dd.dj i j nss p7 hj e q b V0 (by rw[z1,<-z];exact hx)
    exact⟨(z3.mem x hx).1,ai hxb⟩
  ·obtain⟨_,q2⟩:=f m _ q2 (fun z=>nomatch z)
   by_cases hj:i=j
   ·subst hj
    exact dd.ow i nss m xs c e q2 q3
   ·rw[getElem?_set_ne hj]at q1
    exact dd.ow j p7 m xs c q1 q2 q3
  ·have p1:∃ms,env[j]?=some (.deep ms):=by
    by_cases hj:i=j
    ·subst hj;exact⟨nss,e⟩
    ·rw[getElem?_set_ne hj]at q1;exact⟨p7,q1⟩
   have p2:∃ms,env[m]?=some (.deep ms):=by
    by_cases hj:i=m
    ·subst hj;exact⟨nss,e⟩
    ·rw[getElem?_set_ne hj]at q2;exact⟨Ro,q2⟩
   obtain⟨m1,p1⟩:=p1
   obtain⟨m2,p2⟩:=p2
   exact dd.dj j m m1 m2 Uc p1 p2 x hx
end
section
variable{X:Cx}{E:Str->Hp->Prop}{pos:Pos}
def tFr(K:PySem.W.Frag)(E:Str->Hp->Prop)(f:DE->R (List (List Int))):TA:=fun σ H Q=>∃g env os,Rel K g env σ H os/\Good E g.H₀ (f env) fun nss=>∀(as:List Addr)(H':Hp),aM H H'->(∀b∈as,H b=none)->as.Nodup->as.length=nss.length->
 (∀(k:Nat)(b:Addr)(ns:List Int),as[k]?=some b->nss[k]?=some ns->H' b=some (.lst (ns.map V.int)))->Q (as.map V.ref) H'
theorem OW:PA X [] (tFr X.K E fun _=>.ok []):=Hu aN fun σ H Q ⟨g,env,os,r,m⟩=>m [] H (aM.refl H) (fun _ z=>nomatch z) .nil rfl (fun _ _ _ z=>by simp at z)
theorem OY(i:Nat){x:Str}{es:List Expr}{f:DE->R (List (List Int))}{pos' p:Pos}(he:PA X es (tFr X.K E f))(hN:X.N.Nodup)(hi:X.N[i]?=some x:=by rfl)(hx:Loc X.env.scope x:=by first|exact Or.inl rfl|exact Or.inr rfl)(hs:swapsWith (.List es p) (some (.Name x pos')) pos.line X.env=pure false:=by rfl)
  (hf:X.fn x=true\/X.env.scope.names.lookup x=some .local:=by first|exact .inl rfl|exact .inr rfl|assumption):PS X (.Assign [.Name x pos'] (.List es p) pos) (tS X.K E fun env=>(f env).bind fun nss=>(fit nss).bind fun nss=>.ok (.nx (env.set i (.deep nss)))):=
 pV (dq hN hi hx (sL he) hs hf) fun De σ H ⟨g,env,os,r,m⟩=>⟨g,env,os,r,m.bind.mono fun nss _ m1 as H1 s1 hn nd hl hc=>by
  obtain⟨hz,q⟩:=m1.bind.fit
  refine⟨by rw[length_map,hl];exact hz,fun p hp=>?_⟩
  have ZM:p∉as:=fun z=>by
   obtain⟨k,hk,rfl⟩:=getElem_of_mem z
   have:=hc k _ _ (getElem?_eq_getElem hk) (getElem?_eq_getElem (by rw[<-hl];exact hk))
   rw[hp]at this
   cases this
  have sp:=aO hp (.lst (as.map V.ref))
  have hnew:∀b∈p::as,H b=none:=fun b hb=>by
   rcases mem_cons.mp hb with rfl|hb
   ·exact s1.free hp
   ·exact hn b hb
  have s2:=s1.trans sp
  refine q _ _ ((p::as)++os) (r.ZF s2 i hnew (nodup_cons.mpr ⟨ZM,nd⟩) hl ar fun k b ns e1 e2=>sp _ _ (hc k b ns e1 e2)) ⟨fun b hb=>?_,fun b hb=>s2.free hb,fun b o _ hb=>s2 b o hb⟩
  rcases mem_append.mp hb with z|z
  ·exact .inr (hnew b z)
  ·exact .inl z⟩
end
def Ij:Out->R (List (List Int))
 |.Dc nss=>.ok nss
 |_=>.bad
def spT(K:PySem.W.Frag)(m:List D->R (List (List Int))):Sp:=fun vs H Q E=>∃P ds,IsL K P H ds vs/\(match m ds with
 |.ok nss=>∀(a:Addr)(as:List Addr)(H':Hp),aM H H'->QM H H' a as nss->Q (.ref a) H'
 |_=>False)
def mT(n N:Nat)(b:DE->R Out)(ds:List D):R (List (List Int)):=if ds.length=n then((b (aP N ds)).bind Ij).ne else .bad
abbrev Ud(P:Program)(w:World)(K:PySem.W.Frag)(mg:Str->Option Value)(base:Heap)(k:Nat)(f:Addr)(fd:FuncData)(ps:List Str)(m:List D->R (List (List Int))):Prop:=cu P w K mg base kC k f fd ps (spT K m)
section
variable{P:Program}{w:World}{K:PySem.W.Frag}{mg:Str->Option Value}{base:Heap}
theorem okT{x:Str}{st:Stmt}{f:Addr}{fd:FuncData}{N ps:List Str}{k:Nat}{b:DE->R Out}(S:aD N ps (ae st))(d:Df K mg x st ps f fd)
  (hb:∀(cdv:Value)(A:Around)(outer:List Env)(s:Shared)(H:Hp)(E:XK),aZ k (A.deeper (envOfC x (ae st) s.heap.objs.size f cdv))->ql (qo kC P w K mg base N x (ae st) f cdv A outer s H E).GC (bH st) (tS K EN b)):
  Ud P w K mg base (k+1) f fd ps (mT ps.length N.length b):=by
 refine d.F.ok S (fun vs H Q E h=>?_) (fun cdv A outer s H vs Q E hr h=>?_)
 ·obtain⟨Pa,ds,i,h⟩:=h
  cases e:mT ps.length N.length b ds with
  |ok nss=>
   rw[i.length]
   unfold mT at e
   split at e
   ·assumption
   ·cases e
  |err c=>rw[e]at h;exact h.elim
  |bad=>rw[e]at h;exact h.elim
 ·obtain⟨Pa,ds,i,h⟩:=h
  refine⟨_,hb cdv A outer s H E hr,⟨⟨Pa,H⟩,aP N.length ds,[],sV i,?_⟩⟩
  cases e:mT ps.length N.length b ds with
  |err c=>rw[e]at h;exact h.elim
  |bad=>rw[e]at h;exact h.elim
  |ok nss=>
   rw[e]at h
   unfold mT at e
   split at e
   ·have q:=R.bM e
    cases eb:b (aP N.length ds)with
    |bad=>rw[eb]at q;cases q
    |err c=>rw[eb]at q;cases q
    |ok o=>
     rw[eb]at q
     cases o with
     |Dc p7=>
      cases q
      exact fun a as H' s' nd=>h a as H' s' nd
     |LU _=>cases q
     |K3 _=>cases q
     |LS _=>cases q
     |o8 _=>cases q
     |rt _=>cases q
     |nx _=>cases q
     |bk _=>cases q
     |ct _=>cases q
   ·cases e
end
section
variable{X:Cx}{E:Str->Hp->Prop}{pos:Pos}
def tDp(K:PySem.W.Frag)(E:Str->Hp->Prop)(f:DE->R (List (List Int))):TE:=fun σ H Q=>∃g env os,Rel K g env σ H os/\Good E g.H₀ (f env) fun nss=>∀(a:Addr)(as:List Addr)(H':Hp),aM H H'->QM H H' a as nss->Q (.ref a) H'
theorem fT1{x:Str}{st:Stmt}{ps:List Str}{fa:Addr}{fd:FuncData}{k:Nat}{p:Pos}{e:Expr}{es:List Expr}{f:DE->R (List D)}{m:List D->R (List (List Int))}(d:Df X.K X.mg x st ps fa fd)(F:Ud X.prog X.w X.K X.mg X.base k fa fd ps m)(hr:aZ k X.A)
  (ha:PA X (e::es) (sQ X.K E f))(hg:Gl X x:=by rfl)(hdb:(x==("__debug__":Str))=false:=by decide)(he:starEach (e::es) X.env=(false,eval e X.env)::starEach es X.env:=by rfl)(hpl:(backTo pos (starEach es X.env)).any (·.1)=false:=by rfl):
  PE X (.Call (.Name x p) (e::es) [] pos) (tDp X.K E fun env=>((f env).bind m).ne):=
 imp (dZ (E:=fun _ _ _=>False) F hr hg d.m d.F.kp d.b .nil kG ha hdb he hpl) fun σ H Q ⟨g,env,os,r,q⟩=>⟨g,env,os,r,by
  dsimp only at q
  cases ef:f env with
  |bad=>rw[ef]at q;exact q.elim
  |err c=>rw[ef]at q;exact q.elim
  |ok ds=>
   rw[ef]at q
   cases em:m ds with
   |bad=>rw[show((R.ok ds).bind m)=m ds from rfl,em]at q;exact q.elim
   |err c=>rw[show((R.ok ds).bind m)=m ds from rfl,em]at q;exact q.elim
   |ok nss=>
    rw[show((R.ok ds).bind m)=m ds from rfl,em]at q
    intro vs H1 s1 i1
    show spT X.K m (vs++[]) H1 Q _
    rw[append_nil]
    refine⟨_,ds,i1,?_⟩
    rw[em]
    exact fun a as H' s' nd=>q a as H' (s1.trans s') (nd.back s1)⟩
def gb(i:Nat)(env:DE):R (List (List Int)):=match env[i]? with
 |some (.deep (.ls nss))=>.ok nss
 |_=>.bad
theorem Good.deep {H₀:Hp}{i:Nat}{env:DE}{p:List (List Int)->Prop}(h:Good E H₀ (gb i env) p):∃nss:List (List Int),env[i]?=some (.deep nss)/\p nss:=by
 unfold gb at h
 split at h
 ·rename_i nss e
  exact⟨nss,e,h⟩
 ·exact h.elim
theorem OZ(i:Nat){x:Str}{p:Pos}(hN:X.N[i]?=some x:=by rfl)(hv:x8 X.env.scope x:=by first|exact Or.inl rfl|exact Or.inr (Or.inl rfl)|exact Or.inr (Or.inr rfl))(hd:(x==("__debug__":Str))=false:=by decide)
  (hcd:(x==("__classdict__":Str))=false:=by decide):PS X (.Return (some (.Name x p)) pos) (tS X.K E fun env=>(gb i env).bind fun nss=>.ok (.Dc nss)):=
 pV (lg (ji hN hv hd hcd)) fun De σ H ⟨g,env,os,r,m⟩=>by
  obtain⟨nss,e,q⟩:=m.bind.deep
  obtain⟨A,dd⟩:=r.Hr
  obtain⟨a,as,hA,h1,h3⟩:=dd.dp i nss e
  exact⟨.ref a,h1,(show iA X.K g H os De (.Dc nss)from q) a as H r.ext ⟨fun b hb=>(r.new b (h3.mem b hb).1).1,h3.nd,h3.len,h3.ha,fun k b ns e1 e2=>(h3.it k b ns e1 e2).2⟩⟩
end
section
variable{X:Cx}{E:Str->Hp->Prop}{pos:Pos}
theorem Rel.ze {K:PySem.W.Frag}{g:Gh}{env:DE}{σ:St}{H:Hp}{os:List Addr}(r:Rel K g env σ H os){ix:Nat}{nss:List (List Int)}(e:env[ix]?=some (.deep nss)):∃(a:Addr)(as:List Addr),σ[ix]?=some (some (.ref a))/\H a=some (.lst (as.map V.ref))/\as.length=nss.length/\∀(k:Nat)(ns:List Int),nss[k]?=some ns->∃b,as[k]?=some b/\H b=some (.lst (ns.map V.int)):=by
 obtain⟨A,dd⟩:=r.Hr
 obtain⟨a,as,_,h1,h3⟩:=dd.dp ix nss e
 refine⟨a,as,h1,h3.ha,h3.len,fun k ns hk=>?_⟩
 have hl:k<as.length:=by rw[h3.len];exact(List.getElem?_eq_some_iff.mp hk).1
 exact⟨as[k],getElem?_eq_getElem hl,(h3.it k _ ns (getElem?_eq_getElem hl) hk).2⟩
def Av(nss:List (List Int)):D->R (Nat×List Int)
 |.int i=>(match qH nss.length i with
  |some k=>(match nss[k]? with
   |some ns=>.ok (k,ns)
   |none=>.bad)
  |none=>.bad)
 |_=>.bad
theorem Good.Av {H₀:Hp}{nss:List (List Int)}{a:D}{p:Nat×List Int->Prop}(h:Good E H₀ (Av nss a) p):∃i k ns,a=.int i/\qH nss.length i=some k/\nss[k]?=some ns/\p (k,ns):=by
 unfold DL.Av at h
 split at h
 ·rename_i i
  split at h
  ·rename_i k hk
   split at h
   ·rename_i ns hns
    exact⟨i,k,ns,rfl,hk,hns,h⟩
   ·exact h.elim
  ·exact h.elim
 ·exact h.elim
theorem Rp{α:Type}{xs:List α}{i:Int}{k:Nat}{x:α}(h:qH xs.length i=some k)(hx:xs[k]?=some x):ig xs i=some x:=by
 unfold L2.ig
 rw[h]
 exact hx
end
section
variable{K:PySem.W.Frag}{g:Gh}{env:DE}{σ:St}{H H1:Hp}{os:List Addr}
theorem Rel.V2 (r:Rel K g env σ H os)(s:aM H H1){i:Nat}{nss:List (List Int)}(e:env[i]?=some (.deep nss)){a b:Addr}{as:List Addr}{ns:List Int}(hσ:σ[i]?=some (some (.ref a)))(ha:H a=some (.lst (as.map V.ref)))(hn:H b=none)(hb:H1 b=some (.lst (ns.map V.int))):
  a∈os/\Rel K g (env.set i (.deep (nss++[ns]))) σ (upd H1 a (.lst (as.map V.ref++[.ref b]))) (b::os):=by
 obtain⟨A,dd⟩:=r.Hr
 obtain⟨a0,xw,hA,h1,h3⟩:=dd.dp i nss e
 rw[hσ]at h1
 cases h1
 have has:xw=as:=by
  have z:=h3.ha
  rw[ha]at z
  have z2:as.map V.ref=xw.map V.ref:=by injection z with z;injection z
  exact(kK z2).symm
 subst has
 have qx:a∈os:=h3.ma
 have hnew:b∉os:=fun hm=>by
  obtain⟨o,ho⟩:=(r.new b hm).2
  rw[hn]at ho
  cases ho
 have hab:b≠a:=fun z=>hnew (by rw[z];exact qx)
 refine⟨qx,?_⟩
 have ex:Ext (g.P os) (g.P (b::os)) H (upd H1 a (.lst (xw.map V.ref++[.ref b]))):=⟨fun c o p q=>⟨p.1,fun hm=>by
  rcases mem_cons.mp hm with z|z
  ·rw[z,hn]at q;cases q
  ·exact p.2 z⟩,fun c o p q=>by rw[ai (fun z=>p.2 (by rw[z];exact qx))];exact s c o q⟩
 have f:∀(j:Nat)(sl:Sl),(env.set i (Sl.deep (nss++[ns])))[j]?=some sl->sl≠.deep (nss++[ns])->i≠j/\env[j]?=some sl:=fun j sl q hn=>kJ q hn
 have keep:∀c∈os,c≠a->∀o,H c=some o->(upd H1 a (.lst (xw.map V.ref++[.ref b]))) c=some o:=fun c _ hc o ho=>by rw[ai hc];exact s c o ho
 refine⟨by simp[r.len],fun c o q=>?_,fun j d q=>?_,fun j xs q=>?_,fun j k xs ys c q1 q2 q3 q4=>?_,fun c hc=>?_,fun j v q=>?_,?_⟩
 ·rw[ai (fun z=>by rw[z,(r.new a qx).1]at q;cases q)]
  exact s _ _ (r.ext c o q)
 ·obtain⟨hj,q⟩:=f j _ q (fun z=>nomatch z)
  obtain⟨v,h1,h2⟩:=r.val j d q
  exact⟨v,h1,Is.ext ex _ _ h2⟩
 ·obtain⟨hj,q⟩:=f j _ q (fun z=>nomatch z)
  obtain⟨c,vs,h1,h2,V1,h4⟩:=r.own j xs q
  have hca:c≠a:=fun z=>dd.ow i nss j xs c e q h1 (by rw[z,hA];exact mem_cons_self)
  exact⟨c,vs,h1,mem_cons_of_mem _ h2,keep c h2 hca _ V1,IsL.ext ex _ _ h4⟩
 ·obtain⟨hj,q1⟩:=f j _ q1 (fun z=>nomatch z)
  obtain⟨hk,q2⟩:=f k _ q2 (fun z=>nomatch z)
  exact r.inj j k xs ys c q1 q2 q3 q4
 ·rcases mem_cons.mp hc with z|z
  ·rw[z]
   exact⟨r.ext.free hn,_,by rw[ai hab];exact hb⟩
  ·obtain⟨z1,o,z2⟩:=r.new c z
   refine⟨z1,?_⟩
   by_cases w:c=a
   ·exact⟨_,by rw[w];exact ar⟩
   ·exact⟨o,keep c z w o z2⟩
 ·obtain⟨hj,q⟩:=f j _ q (fun z=>nomatch z)
  exact r.raw j v q
 ·have sub:∀(j':Nat)(y:Addr),(y∈if j'=i then a::(xw++[b])else A j')->y∈A j'\/(j'=i/\y=b):=fun j' y hy=>by
   by_cases hj:j'=i
   ·rw[if_pos hj]at hy
    rw[hj,hA]
    rcases mem_cons.mp hy with w|w
    ·rw[w];exact .inl mem_cons_self
    ·rcases mem_append.mp w with w|w
     ·exact .inl (mem_cons_of_mem _ w)
     ·exact .inr ⟨rfl,by simpa using w⟩
   ·rw[if_neg hj]at hy
    exact .inl hy
  have p1:∀(j:Nat)(ms:Ct),(env.set i (Sl.deep (nss++[ns])))[j]?=some (.deep ms)->∃Rq,env[j]?=some (.deep Rq):=fun j ms q=>by
   by_cases hj:i=j
   ·subst hj;exact⟨nss,e⟩
   ·rw[getElem?_set_ne hj]at q;exact⟨ms,q⟩
  refine⟨fun j=>if j=i then a::(xw++[b])else A j,fun j p7 q=>?_,fun j p7 m xs c q1 q2 q3 hx=>?_,fun j m p7 Ro Uc q1 q2 x hx Vr=>?_⟩
  ·by_cases hj:j=i
   ·have q':=q
    rw[hj]at q'
    have z:=bu q'
    cases z
    refine⟨a,xw++[b],if_pos hj,by rw[hj];exact hσ,mem_cons_of_mem _ h3.ma,by rw[map_append];exact ar,by rw[length_append,length_append,h3.len];rfl,?_,fun m c ms e1 e2=>?_⟩
    ·have ZN:b∉xw:=fun z=>hnew (h3.mem b (mem_cons_of_mem _ z)).1
     have nd:=nodup_cons.mp h3.nd
     refine nodup_cons.mpr ⟨fun z=>?_,?_⟩
     ·rcases mem_append.mp z with w|w
      ·exact nd.1 w
      ·have:a=b:=by simpa using w
       exact hab this.symm
     ·rw[List.nodup_append]
      refine⟨nd.2,by simp,fun x hx y hy=>?_⟩
      have YG:y=b:=by simpa using hy
      rw[YG]
      exact fun z=>ZN (by rw[<-z];exact hx)
    ·by_cases hm:m<xw.length
     ·rw[getElem?_append_left hm]at e1
      rw[getElem?_append_left (by rw[<-h3.len];exact hm)]at e2
      obtain⟨w1,w2⟩:=h3.it m c ms e1 e2
      have hca:c≠a:=fun z=>(nodup_cons.mp h3.nd).1 (by rw[<-z];exact mem_of_getElem? e1)
      exact⟨mem_cons_of_mem _ w1,keep c w1 hca _ w2⟩
     ·have hk2:m=xw.length:=by
       have:=(List.getElem?_eq_some_iff.mp e1).1
       rw[length_append]at this
       simp at this
       omega
      subst hk2
      have z1':b=c:=by simpa using e1
      rw[h3.len]at e2
      have z2':ns=ms:=by simpa using e2
      subst z1' z2'
      exact⟨mem_cons_self,by rw[ai hab];exact hb⟩
   ·rw[getElem?_set_ne (Ne.symm hj)]at q
    obtain⟨c,cs,z1,z2,z3⟩:=dd.dp j p7 q
    refine⟨c,cs,by rw[if_neg hj];exact z1,z2,z3.to fun x hx=>?_⟩
    have hxa:x≠a:=fun z=>dd.dj i j nss p7 (Ne.symm hj) e q a (by rw[hA];exact mem_cons_self) (by rw[z1,<-z];exact hx)
    obtain⟨w1,o,w2⟩:=z3.mem x hx
    exact⟨mem_cons_of_mem _ w1,by rw[keep x w1 hxa o w2,w2]⟩
  ·have Xy:=(f m _ q2 (fun z=>nomatch z)).2
   obtain⟨Rq,p⟩:=p1 j p7 q1
   rcases sub j c hx with w|⟨_,w⟩
   ·exact dd.ow j Rq m xs c p Xy q3 w
   ·obtain⟨c',vs,w1,w2,_⟩:=r.own m xs Xy
    rw[q3]at w1
    cases w1
    exact hnew (by rw[<-w];exact w2)
  ·obtain⟨m1,w1⟩:=p1 j p7 q1
   obtain⟨m2,w2⟩:=p1 m Ro q2
   rcases sub j x hx with u|⟨u1,u⟩<;>rcases sub m x Vr with v|⟨v1,v⟩
   ·exact dd.dj j m m1 m2 Uc w1 w2 x u v
   ·exact hnew (by rw[<-v];exact(dd.mem w1 x u).1)
   ·exact hnew (by rw[<-u];exact(dd.mem w2 x v).1)
   ·exact Uc (by rw[u1,v1])
end
section
variable{X:Cx}{E:Str->Hp->Prop}{pos:Pos}
def B7(ix:Nat)(env:DE)(nss:List (List Int))(kn:Nat×List Int):D->R Out
 |.int v=> @ite _ (kn.2.length<sizeLine) (propDecidable _) (.ok (.nx (env.set ix (.deep (nss.set kn.1 (kn.2++[v])))))) .bad
 |_=>.bad
theorem Good.B7 {H₀:Hp}{ix:Nat}{env:DE}{nss:List (List Int)}{kn:Nat×List Int}{d:D}{p:Out->Prop}(h:Good E H₀ (B7 ix env nss kn d) p):∃v,d=.int v/\kn.2.length<sizeLine/\p (.nx (env.set ix (.deep (nss.set kn.1 (kn.2++[v]))))):=by
 unfold DL.B7 at h
 split at h
 ·split at h
  ·rename_i c
   exact⟨_,rfl,c,h⟩
  ·exact h.elim
 ·exact h.elim
theorem Rt(ix:Nat){x:Str}{ei e:Expr}{fi f:DE->R D}{p V3 apos bA:Pos}(hi:PE X ei (tB X.K E fi))(he:PE X e (tB X.K E f))(hN:X.N[ix]?=some x:=by rfl)(hv:x8 X.env.scope x:=by first|exact Or.inl rfl|exact Or.inr (Or.inl rfl)|exact Or.inr (Or.inr rfl))(hd:(x==("__debug__":Str))=false:=by decide)
  (hcd:(x==("__classdict__":Str))=false:=by decide)(hpi:uW ei:=by exact fun _ _=>rfl)
  (hbase:attributeBase (.Subscript (.Name x p) ei V3) "append" X.env (eval (.Subscript (.Name x p) ei V3) X.env)=eval (.Subscript (.Name x p) ei V3) X.env:=by rfl)
  (hfew:((backTo bA (starEach [e] X.env)).all (fun x=> !x.1)&&(backToKw bA (keywordEach [] X.env)).all (fun x=>x.1.isSome)
   &&decide ([e].length+([]:List Keyword).length+(if([]:List Keyword).isEmpty then 0 else 1)<30))=true:=by rfl)
  (hline:(apos.endLine==bA.line)=true:=by rfl)(hst:starEach [e] X.env=(false,eval e X.env)::starEach [] X.env:=by rfl)(hplain:(backTo bA (starEach [] X.env)).any (·.1)=false:=by rfl)
  (hs:swapsWith (.Call (.Attribute (.Subscript (.Name x p) ei V3) "append" apos) [e] [] bA) none pos.line X.env=pure false:=by rfl):
  PS X (.Expr (.Call (.Attribute (.Subscript (.Name x p) ei V3) "append" apos) [e] [] bA) pos) (tS X.K E fun env=>(gb ix env).bind fun nss=>(fi env).bind fun a=>(Av nss a).bind fun kn=>(f env).bind fun d=>B7 ix env nss kn d):=
 pV (gB (ug plainAttrs_list PySem.F.slot_list_append PySem.F.type_list_append fy (ik dG (ji hN hv hd hcd) hi hpi) (aB he aN hst) hbase hfew hline hst hplain) hs) fun De σ H ⟨g,env,os,r,m⟩=>by
  obtain⟨nss,e1,m2⟩:=m.bind.deep
  obtain⟨a,as,q1,q2,q3,q4⟩:=r.ze e1
  refine⟨.ref a,q1,g,env,os,r,m2.bind.mono fun da _ m3 w H2 s2 i2=>?_⟩
  obtain⟨i,k,ns,rfl,hk,hns,m4⟩:=m3.bind.Av
  obtain⟨b,hb1,hb2⟩:=q4 k ns hns
  refine⟨a,as.map V.ref,i,.ref b,rfl,i2,cX.of (s2 _ _ q2),Rp (by rw[length_map,q3];exact hk) (by rw[getElem?_map,hb1];rfl),.inl ⟨rfl,_,cX.of (s2 _ _ hb2)⟩,g,env,os,r.same s2,m4.bind.mono fun d _ m5 v H3 s3 i3=>?_⟩
  obtain⟨u,rfl,hl,m6⟩:=m5.B7
  have iu:v=.int u:=i3
  subst iu
  have r3:=r.same (s2.trans s3)
  have ZO:=s3 _ _ (s2 _ _ hb2)
  obtain⟨qx,r4⟩:=r3.ZG (ns:=ns) e1 q1 (s3 _ _ (s2 _ _ q2)) hb1 (List.getElem?_eq_some_iff.mp hns).1 (ns++[u])
  refine⟨b,ns.map V.int,.int u,rfl,rfl,ZO,by rw[length_map];exact hl,?_⟩
  rw[map_append]at r4
  exact(show iA X.K g H os De (.nx _)from m6) σ _ os r4 ((sS.same (s2.trans s3) os).trans (.mut qx))
def Ik(ix:Nat)(env:DE)(nss:List (List Int))(ns:List Int):R Out:= @ite _ (nss.length<sizeLine) (propDecidable _) (.ok (.nx (env.set ix (.deep (nss++[ns]))))) .bad
theorem O0(ix:Nat){x:Str}{e:Expr}{f:DE->R (List D)}{p apos bA:Pos}(he:PE X e (tF X.K E f))(hN:X.N[ix]?=some x:=by rfl)(hv:x8 X.env.scope x:=by first|exact Or.inl rfl|exact Or.inr (Or.inl rfl)|exact Or.inr (Or.inr rfl))(hd:(x==("__debug__":Str))=false:=by decide)
  (hcd:(x==("__classdict__":Str))=false:=by decide)
  (hbase:attributeBase (.Name x p) "append" X.env (eval (.Name x p) X.env)=eval (.Name x p) X.env:=by rfl)
  (hfew:((backTo bA (starEach [e] X.env)).all (fun x=> !x.1)&&(backToKw bA (keywordEach [] X.env)).all (fun x=>x.1.isSome)
   &&decide ([e].length+([]:List Keyword).length+(if([]:List Keyword).isEmpty then 0 else 1)<30))=true:=by rfl)
  (hline:(apos.endLine==bA.line)=true:=by rfl)(hst:starEach [e] X.env=(false,eval e X.env)::starEach [] X.env:=by rfl)(hplain:(backTo bA (starEach [] X.env)).any (·.1)=false:=by rfl)
  (hs:swapsWith (.Call (.Attribute (.Name x p) "append" apos) [e] [] bA) none pos.line X.env=pure false:=by rfl):
  PS X (.Expr (.Call (.Attribute (.Name x p) "append" apos) [e] [] bA) pos) (tS X.K E fun env=>(gb ix env).bind fun nss=>(f env).bind fun xs=>(R.of (Dz xs)).bind fun ns=>Ik ix env nss ns):=
 pV (gB (ug plainAttrs_list PySem.F.slot_list_append PySem.F.type_list_append fy (ji hN hv hd hcd) (aB he aN hst) hbase hfew hline hst hplain) hs) fun De σ H ⟨g,env,os,r,m⟩=>by
  obtain⟨nss,e1,m2⟩:=m.bind.deep
  obtain⟨a,as,q1,q2,q3,q4⟩:=r.ze e1
  refine⟨.ref a,q1,.inl ⟨rfl,_,cX.of q2⟩,g,env,os,r,m2.bind.mono fun xs _ m3 b vs H1 s1 hn hH i1=>?_⟩
  obtain⟨ns,e2,m4⟩:=m3.bind.of
  have e3:=we e2
  subst e3
  have e4:=fQ i1
  subst e4
  unfold Ik at m4
  split at m4
  ·rename_i c
   obtain⟨hos,r2⟩:=r.V2 s1 e1 q1 q2 hn hH
   refine⟨a,as.map V.ref,.ref b,rfl,rfl,s1 _ _ q2,by rw[length_map,q3];exact c,?_⟩
   refine(show iA X.K g H os De (.nx _)from m4) σ _ (b::os) r2 ⟨fun y hy=>?_,fun y hy=>?_,fun y o hy ho=>?_⟩
   ·rcases mem_cons.mp hy with z|z
    ·rw[z];exact .inr hn
    ·exact .inl z
   ·by_cases z:y=a
    ·rw[z,ar]at hy;cases hy
    ·rw[ai z]at hy;exact s1.free hy
   ·rw[ai (fun z=>hy (by rw[z];exact hos))];exact s1 _ _ ho
  ·exact m4.elim
end
section
variable{X:Cx}{E:Str->Hp->Prop}{pos:Pos}{k:Nat}{fa:Addr}{fd:FuncData}{st:Stmt}{ps:List Str}{x:Str}{p:Pos}{e:Expr}{es:List Expr}{f:DE->R (List D)}
abbrev ZP:=List (Str×(List D->R (List D)))
def FnR(X:Cx)(n:Str)(m:List D->R (List D)):Prop:=∃st ps fa fd k,Df X.K X.mg n st ps fa fd/\cu X.prog X.w X.K X.mg X.base kC k fa fd ps (K5 X.K GK m)/\aZ k X.A
def FnT(X:Cx)(tab:ZP):Prop:=∀n m,tab.lookup n=some m->FnR X n m
end
def ab5:D->R Int
 |.int i=>.ok i
 |_=>.bad
def ZQ:Out->R (List (List Int))
 |.K3 nss=>.ok nss
 |_=>.bad
def mP(n N:Nat)(b:DE->R Out)(ds:List D):R (List (List Int)):=if ds.length=n then((b (aP N ds)).bind ZQ).ne else .bad
section
variable{X:Cx}{E:Str->Hp->Prop}{pos:Pos}
def toS:List D->Option (List Str)
 |[]=>some []
 |.str x::r=>(toS r).map (x::·)
 |_::_=>none
def ab6:D->R Str
 |.str i=>.ok i
 |_=>.bad
theorem qZ{K:PySem.W.Frag}{P:Addr->Prop}{H:Hp}:∀{as:List Addr}{nss:List (List Int)},as.length=nss.length->(∀b∈as,P b)->(∀(k:Nat)(b:Addr)(ns:List Int),as[k]?=some b->nss[k]?=some ns->H b=some (.lst (ns.map V.int)))->IsL K P H (nss.map fun ns=>D.lst (ns.map D.int)) (as.map V.ref)
 |[],[],_,_,_=>rfl
 |[],_::_,h,_,_=>by simp at h
 |_::_,[],h,_,_=>by simp at h
 |a::as,ns::nss,h,hp,hi=>⟨_,_,rfl,⟨a,_,rfl,.inl ⟨hp a (by simp),.inl (hi 0 a ns rfl rfl)⟩,bZ ns⟩,qZ (by simpa using h) (fun b hb=>hp b (by simp[hb])) fun k b ms e1 e2=>hi (k+1) b ms e1 e2⟩
theorem PE.ZR {e:Expr}{f:DE->R (List (List Int))}(h:PE X e (tDp X.K E f)):PE X e (tL X.K E fun env=>(f env).bind fun nss=>.ok (nss.map fun ns=>D.lst (ns.map D.int))):=
 imp h fun σ H Q ⟨g,env,os,r,m⟩=>⟨g,env,os,r,m.bind.mono fun nss _ q a as H' s nd=>q a _ H' s (cX.of nd.ha) (qZ nd.len (fun b hb=>r.fresh (nd.fr b (mem_cons_of_mem _ hb))) nd.it)⟩
end
section
variable{X:Cx}{E:Str->Hp->Prop}{pos:Pos}
def ZS(T:List (Str×Int)):List (Str×PyData):=T.map fun p=>(p.1,PyData.int p.2)
def ab7(K:PySem.W.Frag)(a:Addr)(T:List (Str×Int)):Prop:=KTD.tabLook KTD.flatLooks (fun b=>K.lookup b) a (ZS T)=true
end
section
variable{X:Cx}{E:Str->Hp->Prop}{pos:Pos}
def ab8:D->R Unit
 |.int 1=>.ok ()
 |_=>.bad
end
section
variable{X:Cx}{E:Str->Hp->Prop}{pos:Pos}
def ab9:D->R Unit
 |.int 2=>.ok ()
 |_=>.bad
end
section
variable{X:Cx}{E:Str->Hp->Prop}{pos:Pos}
def aca:D->R Unit
 |.int 0=>.ok ()
 |_=>.bad
end
def Mp:D->D->Option D
 |.int i,.int j=> @ite _ (Fi i j) (propDecidable _) (some (.int (i*2^j.toNat))) none
 |_,_=>none
section
variable{X:Cx}{E:Str->Hp->Prop}{pos:Pos}
theorem Mq:lj X (rI Fi fun i j=>.int (i*2^j.toNat)) Mp:=qQ (h:=fun i j=>.int (i*2^j.toNat)) (fun _ _=>rfl) fun x y d e=>by
 unfold Mp at e
 split at e
 ·split at e
  ·rename_i i j c
   cases e
   exact⟨i,j,rfl,rfl,c,rfl⟩
  ·cases e
 ·cases e
theorem V4:TU X .BitOr (UI fun i j=>Builtin.bitOr i j):=by
 intro pins s σ H x y v u Q I r1 r2 h
 obtain⟨i,j,rfl,rfl,q⟩:=h
 obtain⟨t,rfl⟩:=r1
 obtain⟨t',rfl⟩:=r2
 exact ior_int ⟨.int _,H,I.tok _,⟨_,rfl⟩,q⟩
end
section
variable{K:PySem.W.Frag}{g:Gh}{env:DE}{σ:St}{H H1:Hp}{os:List Addr}
theorem Rel.V5 (r:Rel K g env σ H os){i:Nat}{c c':Ct}(e:env[i]?=some (.deep c)){a:Addr}(hσ:σ[i]?=some (some (.ref a))){o:HO}{as':List Addr}
  (hd:∀as,Dp H os a as c->(∀x,x∈as'↔x∈as)/\Dp (upd H a o) os a as' c'):a∈os/\Rel K g (env.set i (.deep c')) σ (upd H a o) os:=by
 obtain⟨A,dd⟩:=r.Hr
 obtain⟨a0,xw,hA,h1,h3⟩:=dd.dp i c e
 rw[hσ]at h1
 cases h1
 obtain⟨hm,Ln⟩:=hd xw h3
 have qx:a∈os:=(h3.mem a (by simp)).1
 have V0:a∈A i:=by rw[hA];simp
 refine⟨qx,?_⟩
 have ex:Ext (g.P os) (g.P os) H (upd H a o):=⟨fun _ _ p _=>p,fun c o p q=>by rw[ai (fun z=>p.2 (by rw[z];exact qx))];exact q⟩
 have f:∀(j:Nat)(sl:Sl),(env.set i (Sl.deep c'))[j]?=some sl->sl≠.deep c'->i≠j/\env[j]?=some sl:=fun j sl q hn=>kJ q hn
 refine⟨by simp[r.len],fun b o' q=>?_,fun j d q=>?_,fun j xs q=>?_,fun j k xs ys b q1 q2 q3 q4=>?_,fun b hc=>?_,fun j v q=>?_,?_⟩
 ·rw[ai (fun z=>by rw[z,(r.new a qx).1]at q;cases q)]
  exact r.ext b o' q
 ·obtain⟨hj,q⟩:=f j _ q (fun z=>nomatch z)
  obtain⟨v,h1,h2⟩:=r.val j d q
  exact⟨v,h1,Is.ext ex _ _ h2⟩
 ·obtain⟨hj,q⟩:=f j _ q (fun z=>nomatch z)
  obtain⟨b,vs,h1,h2,V1,h4⟩:=r.own j xs q
  have ZJ:b≠a:=fun z=>dd.ow i c j xs b e q h1 (by rw[z];exact V0)
  exact⟨b,vs,h1,h2,by rw[ai ZJ];exact V1,IsL.ext ex _ _ h4⟩
 ·obtain⟨hj,q1⟩:=f j _ q1 (fun z=>nomatch z)
  obtain⟨hk,q2⟩:=f k _ q2 (fun z=>nomatch z)
  exact r.inj j k xs ys b q1 q2 q3 q4
 ·obtain⟨z1,o',z2⟩:=r.new b hc
  refine⟨z1,?_⟩
  by_cases z:b=a
  ·exact⟨_,by rw[z];exact ar⟩
  ·exact⟨o',by rw[ai z];exact z2⟩
 ·obtain⟨hj,q⟩:=f j _ q (fun z=>nomatch z)
  exact r.raw j v q
 ·have sub:∀(j:Nat)(y:Addr),(y∈if j=i then a::as' else A j)->y∈A j:=fun j y hy=>by
   by_cases hj:j=i
   ·rw[if_pos hj]at hy
    rw[hj,hA]
    rcases mem_cons.mp hy with w|w
    ·rw[w];exact mem_cons_self
    ·exact mem_cons_of_mem _ ((hm y).mp w)
   ·rw[if_neg hj]at hy
    exact hy
  have p1:∀(j:Nat)(ms:Ct),(env.set i (Sl.deep c'))[j]?=some (.deep ms)->∃Rq,env[j]?=some (.deep Rq):=fun j ms q=>by
   by_cases hj:i=j
   ·subst hj;exact⟨c,e⟩
   ·rw[getElem?_set_ne hj]at q;exact⟨ms,q⟩
  refine⟨fun j=>if j=i then a::as' else A j,fun j p7 q=>?_,fun j p7 m xs b q1 q2 q3 hx=>?_,fun j m p7 Ro Uc q1 q2 x hx Vr=>?_⟩
  ·by_cases hj:j=i
   ·have q':=q
    rw[hj]at q'
    have z:=bu q'
    cases z
    exact⟨a,as',if_pos hj,by rw[hj];exact hσ,Ln⟩
   ·rw[getElem?_set_ne (Ne.symm hj)]at q
    obtain⟨b,cs,z1,z2,z3⟩:=dd.dp j p7 q
    refine⟨b,cs,by rw[if_neg hj];exact z1,z2,z3.to fun x hx=>?_⟩
    have hxb:x≠a:=fun z=>dd.dj i j c p7 (Ne.symm hj) e q a V0 (by rw[z1,<-z];exact hx)
    exact⟨(z3.mem x hx).1,ai hxb⟩
  ·have Xy:=(f m _ q2 (fun z=>nomatch z)).2
   obtain⟨Rq,p⟩:=p1 j p7 q1
   exact dd.ow j Rq m xs b p Xy q3 (sub j b hx)
  ·obtain⟨m1,w1⟩:=p1 j p7 q1
   obtain⟨m2,w2⟩:=p1 m Ro q2
   exact dd.dj j m m1 m2 Uc w1 w2 x (sub j x hx) (sub m x Vr)
end
section
variable{X:Cx}{E:Str->Hp->Prop}{pos:Pos}
theorem V6(ix:Nat){x:Str}{p apos bA:Pos}(hN:X.N[ix]?=some x:=by rfl)(hv:x8 X.env.scope x:=by first|exact Or.inl rfl|exact Or.inr (Or.inl rfl)|exact Or.inr (Or.inr rfl))(hd:(x==("__debug__":Str))=false:=by decide)
  (hcd:(x==("__classdict__":Str))=false:=by decide)
  (hbase:attributeBase (.Name x p) "reverse" X.env (eval (.Name x p) X.env)=eval (.Name x p) X.env:=by rfl)(hline:(apos.endLine==bA.line)=true:=by rfl)
  (hs:swapsWith (.Call (.Attribute (.Name x p) "reverse" apos) [] [] bA) none pos.line X.env=pure false:=by rfl):
  PS X (.Expr (.Call (.Attribute (.Name x p) "reverse" apos) [] [] bA) pos) (tS X.K E fun env=>(gb ix env).bind fun nss=>.ok (.nx (env.set ix (.deep (.ls nss.reverse))))):=
 pV (gB (yW plainAttrs_list PySem.F.slot_list_reverse PySem.F.type_list_reverse BR (ji hN hv hd hcd) hbase hline) hs) fun De σ H ⟨g,env,os,r,m⟩=>by
  obtain⟨nss,e1,m2⟩:=m.bind.deep
  obtain⟨a,as,q1,q2,q3,q4⟩:=r.ze e1
  refine⟨.ref a,q1,.inl ⟨rfl,_,cX.of q2⟩,a,as.map V.ref,rfl,rfl,q2,?_⟩
  obtain⟨hos,r2⟩:=r.V5 (c':=.ls nss.reverse) (o:=.lst (as.map V.ref).reverse) (as':=as.reverse) e1 q1 (fun xw dp=>by
   have d:zO HO.lst H os a xw nss:=dp
   have has:xw=as:=by
    have z:=d.ha
    rw[q2]at z
    have z2:as.map V.ref=xw.map V.ref:=by injection z with z;injection z
    exact(kK z2).symm
   subst has
   refine⟨fun x=>mem_reverse,d.ma,by rw[<-map_reverse];exact ar,by rw[length_reverse,length_reverse];exact d.len,?_,fun k b ns e1 e2=>?_⟩
   ·have nd:=nodup_cons.mp d.nd
    exact nodup_cons.mpr ⟨fun z=>nd.1 (mem_reverse.mp z),(reverse_perm xw).nodup_iff.mpr nd.2⟩
   ·have hk:=(List.getElem?_eq_some_iff.mp e1).1
    rw[length_reverse]at hk
    rw[getElem?_reverse hk]at e1
    rw[getElem?_reverse (by rw[<-d.len];exact hk),<-d.len]at e2
    obtain⟨w1,w2⟩:=d.it _ b ns e1 e2
    have ZI:b≠a:=fun z=>(nodup_cons.mp d.nd).1 (by rw[<-z];exact mem_of_getElem? e1)
    exact⟨w1,by rw[ai ZI];exact w2⟩)
  exact(show iA X.K g H os De (.nx _)from m2) σ _ os r2 (.mut hos)
end
theorem dfm{K:PySem.W.Frag}{h:Heap}{mg:Str->Option Value}{x:Str}{st:Stmt}{ps:List Str}{f:Addr}{oc:Value}{od an:Option Addr}{GF:Array (Option Value)}{kV doc pm cdv ct:Value}(X:K.In h)(G:h.Ns mainGlobals mg)(a:nsIn K mainGlobals x=some (some (.ref f)))
  (l:K.lookup f=some ⟨oc,od,.func (PySem.W.fnOf x x (ed st) (bH st) (ae st) .none kV doc pm an cdv ct),GF⟩)(c:codeIn K cdv x=true)(k:keepIn K (.ref f)=true)
  (hb:∀(kV doc pm:Value)(an:Option Addr)(cdv ct:Value)(us:List Value),us.length=ps.length->bindArgs (PySem.W.fnOf x x (ed st) (bH st) (ae st) .none kV doc pm an cdv ct) ⟨us,[]⟩=pure (ps.zip us)):
  Df K mg x st ps f (PySem.W.fnOf x x (ed st) (bH st) (ae st) .none kV doc pm an cdv ct):=⟨BU l c k,(BU l c k).binds hb,mg_of X G a,a⟩
theorem pA{N P:List Str}{sc:Scope}(h1:sc.kind=.function:=by rfl)(h2:sc.isCoroutine=false:=by rfl)(h3:sc.isGenerator=false:=by rfl)(h4:N.Nodup:=by decide +kernel)(h5:N.take P.length=P:=by rfl)
  (h6:∀x∈P,sc.names.lookup x=some .local\/sc.names.lookup x=some .cell:=by decide +kernel)(h7:∀y∈sc.names,y.2≠.free:=by decide +kernel):aD N P sc:=⟨h1,h2,h3,h4,h5,h6,h7⟩
def uG(n:Int):Obj:={cls:=.type "range_iterator",data:=.fields #[rawInt (0+(n-1)*1),rawInt n,rawInt (-1)]}
theorem Mr:isSubtype (.type "range_iterator") (.type "reversed")=pure false:=by rw[isSubtype_type];kernel_rfl
section
variable{prog:Program}{w:World}{A:Around}{E:Value->Shared->Prop}{s:Shared}
theorem Ms{r:Addr}{n:Int}{t u v:Tok}{Q:Value->Shared->Prop}(h0:0<=n)(h1:n<=1000000)(hr:IsRange s.heap r 0 n 1 t u v)
  (h:Q (.ref s.heap.objs.size) {s with heap:=s.heap.push (uG n)}):wpAny (model prog w) A (call (.builtin "range.__reversed__") [.ref r]) Q E s:=by
 refine wpAny_call_entry slot_range_reversed ⟨_,hr,rfl⟩ PySem.F.entry_range_reversed ?_ (PySem.F.args_range_reversed_1 _)
 have hsz:Builtin.Range.rangeSize 0 n 1=n:=by rw[rangeSize_one];split<;>omega
 have hsm:(Builtin.Range.rangeFitsLong 0&&Builtin.Range.rangeFitsLong n&&Builtin.Range.rangeFitsLong 1&&Builtin.Range.rangeFitsLong (-1)&&Builtin.Range.rangeFitsLong (0-1)&&Builtin.Range.rangeFitsLong n)=true:=by
  unfold Builtin.Range.rangeFitsLong
  simp only [and_eq_true,decide_eq_true_eq]
  omega
 obtain⟨hp,g,d,tk,os⟩:=s
 wp_walk using AutoSeq1.wpAny_loadPart' hr
 rw[hsz,hsm,if_neg (show¬((!true)=true)from Bool.false_ne_true)]
 dsimp only
 rw[if_pos rfl]
 exact wpAny_bind (wpAny_newObj_type (wpAny_pure ⟨_,rfl,h⟩))
theorem Ru{r:Addr}{n:Int}{t u v:Tok}{Q:Value->Shared->Prop}(h0:0<=n)(h1:n<=1000000)(hr:IsRange s.heap r 0 n 1 t u v)
  (h:Q (.ref s.heap.objs.size) {s with heap:=s.heap.push (uG n)}):codeAny (model prog w) A (.call (.builtin "reversed.__new__") ⟨[.type "reversed",.ref r],[]⟩) (wants Q E) s:=by
 have hT:s.TypeIs (.ref r) "range":=⟨_,hr,rfl⟩
 have nb:¬((Value.builtin "range.__reversed__"==Value.none)=true):=Bool.false_ne_true
 refine codeAny_of_tree (show wpAny _ A.in1 (do
  checkBuiltinCall "reversed.__new__" ⟨[.type "reversed",.ref r],[]⟩
  again (.builtin "reversed.__new__" ⟨[.type "reversed",.ref r],[]⟩)) _ _ s from ?_)
 refine wpAny_bind (wpAny_of_eq (PySem.F.newCall_reversed_1 _) (wpAny_pure ⟨plainId_quiet PySem.F.plain_reversed_new _,?_⟩))
 refine codeAny_builtin PySem.F.entry_reversed_new ?_
 rw[Around.under_plainId PySem.F.plain_reversed_new _]
 show wpAny _ _ (do
  let x<-Builtin.SmallTypes.newClass "reversed" ⟨[.type "reversed",.ref r],[]⟩
  _) _ _ _
 refine wpAny_bind (wpAny_of_eq (newClass_reversed (.ref r)) ?_)
 try dsimp only
 refine wpAny_bind (wpAny_of_eq (a:=()) (by kernel_rfl) (wpAny_bind (wpAny_of_eq (a:=()) (by kernel_rfl) ?_)))
 try dsimp only
 refine wpAny_bind (wpAny_specialOf hT slot_range_reversed.lookup ?_)
 try dsimp only
 refine wpAny_bind (wpAny_of_eq (slot_range_reversed.bind (.ref r)) ?_)
 try dsimp only
 rw[if_neg nb]
 refine wpAny_bind (wpAny_rule (wpAny_bind (m:=runValue (.call (.builtin "range.__reversed__") ⟨[.ref r],[]⟩)) ?_))
 show wpAny _ _ (call (.builtin "range.__reversed__") [.ref r]) _ _ _
 refine Ms h0 h1 hr ?_
 first
 |exact wpAny_pure h
 |exact wpAny_bind (wpAny_pure (wpAny_pure h))
theorem Rv{r:Addr}{n:Int}{t u v:Tok}{Q:Value->Shared->Prop}(h0:0<=n)(h1:n<=1000000)(hr:IsRange s.heap r 0 n 1 t u v)
  (h:Q (.ref s.heap.objs.size) {s with heap:=s.heap.push (uG n)}):wpAny (model prog w) A (call (.type "reversed") [.ref r]) Q E s:=by
 have hc:codeAny (model prog w) A.in1 (.call (.builtin "reversed.__new__") ⟨.type "reversed"::[.ref r],[]⟩) (wants (fun o z=>o=.ref s.heap.objs.size/\z={s with heap:=s.heap.push (uG n)}) E) s:=Ru h0 h1 hr ⟨rfl,rfl⟩
 refine callType_other (U:="range_iterator") (by decide +kernel) PySem.F.create_reversed ⟨_,_,PySem.F.mro_reversed⟩ PySem.F.made_reversed Mr (PySem.F.typeCall_reversed_1 _) hc ?_
 rintro o z ⟨rfl,rfl⟩
 exact⟨⟨_,Heap.get?_push_size _ rfl,rfl⟩,h⟩
theorem Mt{it:Addr}{x left c:Int}{Q:Bool->Shared->Prop}(hit:IsRangeIter s.heap it x left c)(h0:0<=left)(h1:left<=1000000)(h:∀tk,Q false {s with toks:=tk}):wpAny (model prog w) A (Builtin.List.listLengthHint (.ref it)) Q E s:=by
 have hT:s.TypeIs (.ref it) "range_iterator":=⟨_,hit,rfl⟩
 have hcall:∀(Q':Value->Shared->Prop),(∀u tk,Q' (.int left u) {s with toks:=tk})->wpAny (model prog w) A (call (.builtin "range_iterator.__length_hint__") [.ref it]) Q' E s:=fun Q' hq=>by
  refine wpAny_call_entry PySem.F.slot_range_iterator_length_hint hT PySem.F.entry_range_iterator_length_hint ?_ (PySem.F.args_range_iterator_length_hint_1 _)
  obtain⟨hp,g,d,tk,os⟩:=s
  wp_walk using AutoSeq1.wpAny_loadPart' hit
  exact⟨_,rfl,hq _ _⟩
 have T6:Builtin.List.listTooLong left.toNat=false:=by simp[Builtin.List.listTooLong,sizeLine];omega
 unfold Builtin.List.listLengthHint
 refine wpAny_bind (wpAny_specialOf hT PySem.F.nolen_ra (show wpAny _ A (specialOf (Value.ref it) (Str.ofString "__length_hint__")>>=_) _ _ _ from wpAny_bind (wpAny_specialOf hT PySem.F.hint_ra ?_)))
 generalize hid:("range_iterator.__length_hint__":String)=id0
 wp_delta
 rw[show splitId id0=some ("range_iterator","__length_hint__")from by subst hid;decide +kernel]
 subst hid
 refine wpAny_bind (wpAny_isInstance (b:=true) hT (by rw[isSubtype_type];kernel_rfl) ?_)
 refine wpAny_ite_split (fun z=>absurd z (by decide)) fun _=>wpAny_ite_split (fun _=>?_) fun z=>absurd (by decide +kernel) z
 refine wpAny_ite_split (fun _=>?_) fun z=>absurd rfl z
 refine wpAny_bind (hcall _ fun u tk=>wpAny_bind (m:=asInt? (.int left u)) (wpAny_pure ?_))
 dsimp only
 rw[if_neg (by rw[T6];decide)]
 exact wpAny_pure (h tk)
theorem Rw{R:Result->Shared->Prop}{it:Addr}{n:Nat}(hh:A.handled=none)(hn:n<=1000000)(hit:IsRangeIter s.heap it ((n:Int)-1) n (-1))(S:Addr)(res:Value)(c₀:Nat)
  (hS:s.heap.get? S=some {cls:=.type "list",data:=.seq #[] c₀})(hSi:S≠it)
  (hR:∀h' tk nM c',(∀b o,b≠S->b≠it->s.heap.get? b=some o->h'.get? b=some o)->h'.get? S=some {cls:=.type "list",dict:=none,data:=.seq nM c',slots:=#[]}->
   ItemsOf (fun i v=>∃t,v=.int ((n:Int)-1+i*(-1)) t) nM n->R (.ok (.ret res)) {s with heap:=h',toks:=tk}):
  wpAny (model prog w) A.in1 (Builtin.List.listExtendWith (.ref S) (.ref it) res)
   (fun fin s'=>match fin with|.done f=>R (.ok f) s'|.again c'=>c'.quiet=true/\codeAny (model prog w) A c' R s') (fun e s'=>R (.error e) s') s:=by
 have hT:s.TypeIs (.ref it) "range_iterator":=⟨_,hit,rfl⟩
 have W:=(Walks.range (prog:=prog) (w:=w) (A:=A.in1) hh it ((n:Int)-1) (-1) n).toS
 have e1:Builtin.List.listSameRef (.ref S) (.ref it)=false:=by simp[Builtin.List.listSameRef,hSi]
 have e2:(Value.type "range_iterator"==Value.type "list")=false:=by decide
 have e3:(Value.type "range_iterator"==Value.type "tuple")=false:=by decide
 have st0:∀tk,IsRangeIter ({s with toks:=tk}:Shared).heap it ((n:Int)-1+((0:Nat):Int)*(-1)) ((n:Int)-((0:Nat):Int)) (-1):=fun tk=>by
  rw[show(n:Int)-1+((0:Nat):Int)*(-1)=(n:Int)-1 by omega,show(n:Int)-((0:Nat):Int)=n by omega]
  exact hit
 unfold Builtin.List.listExtendWith
 refine wpAny_bind (wpAny_typeOf hT ?_)
 simp only [e1,e2,e3,Bool.or_false,false_eq_true,if_false]
 refine wpAny_bind (W.self 0 _ _ _ (st0 s.toks) (wpAny_bind (wpAny_holding (Mt hit (by omega) (by omega) fun tk=>?_))))
 refine wpAny_ite_split (fun z=>absurd z (by decide)) fun _=>wpAny_pure ⟨plainId_quiet PySem.F.plain_extend_loop _,?_⟩
 refine codeAny_extend_loopS W (le_trans hn (by decide)) S (fun hm=>hSi (mem_singleton.mp hm)) res n 0 _ #[] c₀ rfl (zero_le _) (st0 tk) hS (ItemsOf.nil _) fun s' nM c' hm ZT hacc=>?_
 rw[Moved.eq_with hm]
 exact hR s'.heap s'.toks nM c' (fun b o hb hb2 e=>hm.heap b o (fun hmem=>by
  rcases mem_cons.mp hmem with z|z
  ·exact hb z
  ·exact hb2 (mem_singleton.mp z)) e) ZT hacc
theorem Mu{Q:Value->Shared->Prop}{it:Addr}{n:Nat}(hh:A.handled=none)(hn:n<=1000000)(hit:IsRangeIter s.heap it ((n:Int)-1) n (-1))
  (hQ:∀h' tk nM c',(∀b o,b≠it->s.heap.get? b=some o->h'.get? b=some o)->h'.get? s.heap.objs.size=some {cls:=.type "list",dict:=none,data:=.seq nM c',slots:=#[]}->
   ItemsOf (fun i v=>∃t,v=.int ((n:Int)-1+i*(-1)) t) nM n->Q (.ref s.heap.objs.size) {s with heap:=h',toks:=tk}):wpAny (model prog w) A (call (.type "list") [.ref it]) Q E s:=by
 have hlt:it<s.heap.objs.size:=Heap.lt_size hit
 have hS:(s.heap.push {cls:=.type "list",data:=.seq #[]}).get? s.heap.objs.size=some {cls:=.type "list",data:=.seq #[]}:=Heap.get?_push_size _ rfl
 refine callType_codes (Q₁:=fun o z=>o=.ref s.heap.objs.size/\z={s with heap:=s.heap.push {cls:=.type "list",data:=.seq #[]}}) PySem.F.called_list (PySem.F.typeCall_list_1 _) PySem.F.entry_list_init (code_list_new _ ⟨rfl,rfl⟩) ?_
 rintro o z ⟨rfl,rfl⟩
 refine⟨⟨_,hS,rfl⟩,PySem.F.args_list_init_2 _ _,?_⟩
 show wpAny _ _ (do
  let old<-Builtin.List.listItems (.ref s.heap.objs.size)
  Builtin.List.listUpdate (.ref s.heap.objs.size) (fun _=>#[])
  letGo old.toList.reverse
  Builtin.List.listExtendWith (.ref s.heap.objs.size) (.ref it) .none) _ _ _
 refine wpAny_bind ?_
 unfold Builtin.List.listItems
 refine wpAny_bind (wpAny_seqItems hS rfl (wpAny_pure ?_))
 show wpAny _ _ (do
  updateSeq s.heap.objs.size (fun _=>#[])
  letGo (#[]:Array Value).toList.reverse
  Builtin.List.listExtendWith (.ref s.heap.objs.size) (.ref it) .none) _ _ _
 refine wpAny_bind (wpAny_updateSeq hS rfl (wpAny_bind (wpAny_letGo ?_)))
 have hS2:=Heap.get?_update_self (Obj.mapSeq (fun _=>(#[]:Array Value))) hS rfl
 have oth:∀b o,b≠s.heap.objs.size->s.heap.get? b=some o->((s.heap.push {cls:=.type "list",data:=.seq #[]}).update s.heap.objs.size (Obj.mapSeq (fun _=>(#[]:Array Value)))).get? b=some o:=
  fun b o hb e=>(Heap.get?_update_other _ _ (Ne.symm hb)).trans (Heap.get?_push_of_some _ e)
 refine Rw (A:=A.in1) hh hn (oth it _ (ne_of_lt hlt) hit) s.heap.objs.size .none _ hS2 (ne_of_gt hlt) fun h' tk nM c' hk ZT hacc=>⟨rfl,?_⟩
 exact hQ h' tk nM c' (fun b o hb e=>hk b o (ne_of_lt (Heap.lt_size e)) hb (oth b o (ne_of_lt (Heap.lt_size e)) e)) ZT hacc
end
def Rx(n:Nat):List D:=(range n).map fun i=>D.int ((n:Int)-1-(i:Nat))
def wj(n:Nat):List V:=(range n).map fun i=>V.int ((n:Int)-1-(i:Nat))
def Aw:List D->R (List D)
 |[.int j]=> @ite _ (0<=j/\j<=1000000) (propDecidable _) (.ok (Rx j.toNat)) .bad
 |_=>.bad
theorem Mw{K:PySem.W.Frag}{P:Addr->Prop}{H:Hp}(n:Nat):IsL K P H (Rx n) (wj n):=by
 unfold Rx wj
 induction (range n)with
 |nil=>rfl
 |cons x r ih=>exact⟨_,_,rfl,rfl,ih⟩
theorem FP{acc:List Value}{n:Nat}(h1:acc.length=n)(h2:∀(j:Nat)(v:Value),acc[j]?=some v->∃t,v=.int ((n:Int)-1-(j:Nat)) t):Vals (wj n) acc:=by
 have gen:∀(l:List Value)(k:Nat),(∀(j:Nat)(v:Value),l[j]?=some v->∃t,v=.int ((n:Int)-1-((k+j:Nat):Int)) t)->Vals ((range' k l.length).map fun i=>V.int ((n:Int)-1-(i:Nat))) l:=by
  intro l
  induction l with
  |nil=>intro k _;exact .nil
  |cons x r ih=>
   intro k hk
   rw[length_cons,range'_succ,map_cons]
   obtain⟨t,e⟩:=hk 0 x rfl
   refine .cons ⟨t,e⟩ (ih (k+1) fun j v e=>?_)
   obtain⟨t,e⟩:=hk (j+1) v (by simpa using e)
   exact⟨t,by rw[e,show k+(j+1)=k+1+j by omega]⟩
 have:=gen acc 0 fun j v e=>by rw[Nat.zero_add];exact h2 j v e
 rw[h1,<-List.range_eq_range']at this
 exact this
section
variable{X:Cx}{E:Str->Hp->Prop}{pos:Pos}
theorem Ry{a:Expr}{p p2 p3 qr FQ:Pos}{f:DE->R (List D)}(hc:X.calm=true)(HN:X.mg "list"=none)(hmv:X.mg "reversed"=none)(VI:X.mg "range"=none)(ha:PA X [a] (sQ X.K E f))(VJ:Gl X "list":=by rfl)(hgv:Gl X "reversed":=by rfl)(hgr:Gl X "range":=by rfl)
  (hs:starEach [a] X.env=[(false,eval a X.env)]:=by rfl)(he2:starEach [.Call (.Name "range" p3) [a] [] FQ] X.env=(false,eval (.Call (.Name "range" p3) [a] [] FQ) X.env)::starEach [] X.env:=by rfl)
  (he:starEach [.Call (.Name "reversed" p2) [.Call (.Name "range" p3) [a] [] FQ] [] qr] X.env=(false,eval (.Call (.Name "reversed" p2) [.Call (.Name "range" p3) [a] [] FQ] [] qr) X.env)::starEach [] X.env:=by rfl)
  (hpl:(backTo pos (starEach [] X.env)).any (·.1)=false:=by rfl)(Rm:(backTo qr (starEach [] X.env)).any (·.1)=false:=by rfl):
  PE X (.Call (.Name "list" p) [.Call (.Name "reversed" p2) [.Call (.Name "range" p3) [a] [] FQ] [] qr] [] pos) (tF X.K E fun env=>(f env).bind Aw):=by
 intro pins s σ H Q I ⟨g,env,os,r,m⟩
 refine wpAny_Call_Name_kw (iD I VJ HN mz (PyProof.Rows.callWith_type1 ?_ he hpl))
 rw[he]
 refine Calls.spliced_cons (Call_ (iD I hgv hmv uj (PyProof.Rows.callWith_type1 ?_ he2 Rm)))
 rw[he2]
 refine Calls.spliced_cons (Call_ (iD I hgr VI wb (PyProof.Rows.callWith_type1 (cj (ha FQ pins s σ H _ I ⟨g,env,os,r,m.bind.mono fun ds _ q vs H1 s1 i1=>(⟨ds,s1,i1,q⟩:∃ds,aM H H1/\IsL X.K Tr H1 ds vs/\Good E g.H₀ (Aw ds) _)⟩) fun us s1 ⟨vs,H1,I1,r1,ds,sm,i1,q⟩=>?_) hs rfl)))
 unfold Aw at q
 split at q
 ·rename_i j
  split at q
  ·rename_i c
   obtain⟨v,rfl,iv⟩:=IsL.y0 i1
   have VL:v=.int j:=iv
   subst VL
   obtain⟨u,rfl,t,rfl⟩:=vals1 r1
   obtain⟨n,rfl⟩:∃n:Nat,j=n:=⟨j.toNat,by omega⟩
   rw[toNat_natCast]at q
   have hd:X.A.handled=none:=I.ok.hd hc
   refine call_range_1 (Calls.spliced_nil ?_)
   generalize hR:({cls:=.type "range",data:=.fields #[.int 0 s1.toks,.int (n:Int) t,.int 1 (s1.toks+1)]}:Obj)=oR
   refine Rv (n:=n) (by omega) c.2 (show IsRange _ _ 0 (n:Int) 1 s1.toks t (s1.toks+1)from by rw[<-hR];exact IsRange.new ..) (Calls.spliced_nil ?_)
   have k1:∀b o,s1.heap.get? b=some o->((s1.heap.push oR).push (uG n)).get? b=some o:=fun b o e=>Heap.get?_push_of_some _ (Heap.get?_push_of_some _ e)
   have hit:((s1.heap.push oR).push (uG n)).get? (s1.heap.push oR).objs.size=some (uG n):=Heap.get?_push_size _ rfl
   refine Mu (n:=n) hd (by omega) (by
    show((s1.heap.push oR).push (uG n)).get? (s1.heap.push oR).objs.size=_
    rw[hit]
    unfold uG
    rw[show 0+((n:Int)-1)*1=(n:Int)-1 by omega]) fun h' tk nM c' hk hl ZU=>?_
   obtain⟨hi1,hi2⟩:=ZU
   have hv:Vals (wj n) nM.toList:=FP (by simpa using hi1) fun i v e=>by
    obtain⟨t,q⟩:=hi2 i v (by simpa using e)
    exact⟨t,by rw[q];congr 1;omega⟩
   have hlen:(wj n).length<=sizeLine:=by
    unfold wj
    rw[length_map,length_range]
    exact le_trans (show n<=1000000 by omega) (by decide)
   have LQ:∀b o,s1.heap.get? b=some o->h'.get? b=some o:=fun b o e=>hk b o (ne_of_lt (lt_trans (Heap.lt_size e) (by rw[Heap.size_push];exact lt_succ_self _))) (k1 b o e)
   have hsz:s1.heap.objs.size<=((s1.heap.push oR).push (uG n)).objs.size:=by rw[Heap.size_push,Heap.size_push];omega
   have hn1:H1 ((s1.heap.push oR).push (uG n)).objs.size=none:=I1.hok.fresh hsz
   refine⟨.ref _,upd H1 _ (.lst (wj n)),I1.laid (a:=((s1.heap.push oR).push (uG n)).objs.size) (t':=tk) LQ hsz ⟨hlen,nM.toList,c',hv,by simpa using hl⟩,rfl,?_⟩
   exact q _ _ _ (sm.trans (aO hn1 _)) (sm.free hn1) ar (Mw n)
  ·exact q.elim
 ·exact q.elim
end
def wk(env:DE):R Out:=
 (R.bind (R.bind (R.bind (R.bind (R.bind (R.bind (R.bind (R.bind (aX 0 env) fun gz=>R.bind (R.ok (D.int 1000003)) fun lu=>R.of (nT gz lu)) fun lL=>R.bind (R.ok (D.int 7)) fun kj=>R.of (BW lL kj)) fun v10=>R.bind (R.bind (aX 1 env) fun lM=>R.bind (aX 1 env) fun lN=>R.of (BW lM lN)) fun v11=>R.of (eu v10 v11)) fun v8=>R.bind (R.ok (D.int 1)) fun v9=>R.of (eu v8 v9)) fun v6=>R.bind (aX 2 env) fun v7=>R.of (BW v6 v7)) fun v4=>R.bind (R.ok (D.int 2147483647)) fun v5=>R.of (nT v4 v5)) fun v2=>R.bind (R.ok (D.int 16)) fun v3=>R.of (vU v2 v3)) fun v1=>R.ok (Out.rt v1))
def cy:=mS 3 3 wk
def n8(env:DE):R Out:=
 (aV (R.bind (R.bind (R.bind (aX 1 env) fun v4=>R.bind (R.ok (D.int 1)) fun v5=>R.bind (R.of (uk v4 v5)) fH) fun v3=>if v3=true then(R.bind (R.bind (aX 0 env) fun v8=>R.bind (R.ok (D.int 13)) fun v9=>R.of (nT v8 v9)) fun v6=>R.bind (R.ok (D.int 5)) fun v7=>R.bind (R.of (uk v6 v7)) fH)else R.ok false) fun v2=>if v2=true then(R.bind (R.ok (D.int 1)) fun v10=>R.ok (Out.rt v10))else(R.ok (Out.nx env))) fun v1=>
 (aV (R.bind (R.bind (R.bind (R.ok (D.int 2)) fun gz=>R.bind (R.bind (aX 1 v1) fun lM=>R.bind (R.ok []) fun lN=>R.ok (lM::lN)) fun lu=>R.ok (gz::lu)) fun kj=>R.of (Dg kj)) fun lL=>R.ok (Out.nx (List.set v1 1 (Sl.val lL)))) fun v11=>
 (R.bind (R.bind (aX 1 v11) fun lP=>R.bind (R.bind (R.bind (aX 0 v11) fun q8=>R.bind (R.ok (D.int 13)) fun q9=>R.of (vU q8 q9)) fun rf=>R.bind (R.bind (R.bind (aX 2 v11) fun wm=>R.bind (aX 1 v11) fun zf=>R.of (jD wm zf)) fun tm=>R.bind (R.ok (D.int 1)) fun uH=>R.of (eu tm uH)) fun jl=>R.of (nT rf jl)) fun v20=>R.of (eu lP v20)) fun kL=>R.ok (Out.rt kL))))
def eZ:=mS 3 3 n8
def nk(env:DE):R Out:=
 (aV (R.bind (R.bind (R.ok (D.int 1)) fun v3=>R.bind (R.bind (aX 0 env) fun v5=>R.bind (R.bind (aX 1 env) fun v7=>R.bind (R.ok (D.int 1)) fun v8=>R.of (jD v7 v8)) fun v6=>R.of (nT v5 v6)) fun v4=>R.of (eu v3 v4)) fun v2=>R.ok (Out.nx (List.set env 2 (Sl.val v2)))) fun v1=>
 (aV (R.bind (R.bind (R.bind (R.bind (aX 0 v1) fun lu=>R.bind (R.ok (D.int 8)) fun lM=>R.of (vU lu lM)) fun kj=>R.bind (R.ok (D.int 2)) fun gz=>R.of (nT kj gz)) fun v11=>R.bind (R.ok (D.int 1)) fun lL=>R.bind (R.of (uk v11 lL)) fH) fun v10=>if v10=true then(R.bind (R.bind (aX 2 v1) fun kL=>R.of (qP kL)) fun lN=>R.ok (Out.rt lN))else(R.ok (Out.nx v1))) fun v9=>
 (R.bind (bG 2 v9) fun lP=>R.ok (Out.rt lP))))
def bh:=mS 2 3 nk
def rg(env:DE):R Out:=
 (aV (R.bind (R.bind (R.bind (aX 0 env) fun v3=>R.bind (R.bind (aX 1 env) fun v5=>R.bind (R.ok []) fun v6=>R.ok (v5::v6)) fun v4=>R.ok (v3::v4)) bh) fun v2=>R.ok (Out.nx (List.set env 2 (Sl.val v2)))) fun v1=>
 (aV (R.bind (R.bind (R.bind (R.bind (R.bind (aX 0 v1) fun gz=>R.bind (R.ok (D.int 16)) fun lu=>R.of (vU gz lu)) fun lL=>R.bind (R.ok (D.int 4)) fun kj=>R.of (nT lL kj)) fun v10=>R.bind (R.ok (D.int 0)) fun v11=>R.bind (R.of (xK v10 v11)) fH) fun v9=>if v9=true then R.ok true else(R.bind (aX 1 v1) fun lM=>R.bind (R.ok (D.int 3)) fun lN=>R.bind (R.of (K4 lM lN)) fH)) fun v8=>if v8=true then(R.bind (R.bind (R.bind (R.bind (bG 2 v1) fun v20=>R.bind (R.ok []) fun rf=>R.ok (v20::rf)) fit) fun lP=>R.ok (D.lst lP)) fun kL=>R.ok (Out.rt kL))else(R.ok (Out.nx v1))) fun v7=>
 (aV (R.bind (R.bind (R.bind (R.bind (R.bind (R.bind (R.bind (aX 2 v7) fun B8=>R.bind (R.ok (D.int 1)) fun B9=>R.of (eu B8 B9)) fun zg=>R.bind (R.ok []) fun v30=>R.ok (zg::v30)) fun zf=>R.of (y4 zf)) fun uH=>R.bind (aX 1 v7) fun wm=>R.bind (R.of (K4 uH wm)) fH) fun tm=>if tm=true then(R.bind (R.bind (aX 2 v7) fun FT=>R.bind (R.ok (D.int 1)) fun Ay=>R.of (eu FT Ay)) fun FU=>R.bind (R.ok (D.int 0)) fun FW=>R.bind (R.of (y7 FU FW)) fH)else R.ok false) fun q9=>if q9=true then(R.bind (aX 2 v7) fun FY=>R.bind (R.ok (D.int 1)) fun GO=>R.of (eu FY GO))else(R.bind (aX 2 v7) fun FZ=>R.bind (R.ok (D.int 1)) fun GQ=>R.of (jD FZ GQ))) fun q8=>R.ok (Out.nx (List.set v7 3 (Sl.val q8)))) fun jl=>
 (R.bind (R.bind (R.bind (R.bind (R.bind (R.bind (R.bind (bG 2 jl) fun F0=>R.bind (R.bind (bG 3 jl) fun F3=>R.bind (R.bind (bG 2 jl) fun ym=>R.bind (R.ok []) fun DH=>R.ok (ym::DH)) fun F4=>R.ok (F3::F4)) fun xx=>R.ok (F0::xx)) fit) fun F5=>R.ok (D.lst F5)) fun DI=>R.bind (R.bind (R.bind (R.bind (R.bind (bG 2 jl) fun Il=>R.bind (R.bind (bG 3 jl) fun Im=>R.bind (R.ok []) fun yn=>R.ok (Im::yn)) fun Ca=>R.ok (Il::Ca)) fit) fun Io=>R.ok (D.lst Io)) fun Ip=>R.bind (R.bind (R.bind (R.bind (R.bind (bG 2 jl) fun Ir=>R.bind (R.bind (bG 2 jl) fun Iu=>R.bind (R.ok []) fun Iw=>R.ok (Iu::Iw)) fun Iz=>R.ok (Ir::Iz)) fit) fun IA=>R.ok (D.lst IA)) fun IB=>R.bind (R.bind (R.bind (R.bind (R.bind (bG 2 jl) fun IC=>R.bind (R.bind (R.bind (aX 3 jl) fun ID=>R.of (qP ID)) fun IE=>R.bind (R.bind (bG 2 jl) fun Mx=>R.bind (R.ok []) fun My=>R.ok (Mx::My)) fun IF=>R.ok (IE::IF)) fun IG=>R.ok (IC::IG)) fit) fun II=>R.ok (D.lst II)) fun IJ=>R.bind (R.ok []) fun IK=>R.ok (IJ::IK)) fun Cb=>R.ok (IB::Cb)) fun Mz=>R.ok (Ip::Mz)) fun xR=>R.ok (DI::xR)) fit) fun Bu=>R.bind (R.bind (R.bind (aX 0 jl) fun IL=>R.bind (R.ok (D.int 64)) fun MA=>R.of (vU IL MA)) fun MB=>R.bind (R.ok (D.int 4)) fun MC=>R.of (nT MB MC)) fun xS=>p8 Bu xS) fun IM=>R.ok (Out.rt IM)))))
def gM:=mD 2 4 rg
def jm(d:D)(env:DE):R Out:=
 R.bind ((bT 2 (jx (bN 4) (jx (bN 5) xQ))) d env) fun v8=>
  (R.bind (R.bind (aX 1 v8) fun v10=>R.bind (R.ok (D.int 1)) fun v11=>R.bind (R.of (xK v10 v11)) fH) fun v9=>if v9=true then(R.bind (R.bind (R.bind (gD 3 v8) fun gz=>R.bind (R.bind (R.bind (R.bind (R.bind (R.bind (aX 5 v8) fun kL=>R.bind (R.bind (aX 4 v8) fun v20=>R.bind (R.bind (R.ok (D.int 48271)) fun jl=>R.bind (R.ok []) fun q8=>R.ok (jl::q8)) fun rf=>R.ok (v20::rf)) fun lP=>R.ok (kL::lP)) cy) fun lM=>R.bind (R.bind (bG 1 v8) fun q9=>R.bind (R.ok []) fun tm=>R.ok (q9::tm)) fun lN=>R.ok (lM::lN)) gM) vR) fun lu=>fit (gz++lu)) fun kj=>R.ok (D.lst kj)) fun lL=>R.ok (Out.nx (List.set v8 3 (Sl.val lL))))else(R.ok (Out.nx v8)))
def rh(env:DE):R Out:=
 (aV (R.bind (R.bind (R.bind (R.ok []) fit) fun v3=>R.ok (D.lst v3)) fun v2=>R.ok (Out.nx (List.set env 3 (Sl.val v2)))) fun v1=>
 (aV (R.bind (R.bind (bG 0 v1) fun uH=>R.bind (vR uH) fun xs=>R.ok (dO xs)) fun v5=>gG jm v5 v1) fun v4=>
 (R.bind (R.bind (gD 3 v4) fun zf=>R.bind (R.ok none) fun zg=>R.bind (R.bind (aX 2 v4) zP) fun v30=>R.ok (cut zf zg v30)) fun wm=>R.ok (Out.o8 wm))))
def gO:=gm 3 6 rh
def wo(c k f:Int):Int:=(c%1000003*7+k*k+1)*f%2147483647/16
theorem zh(c k f:Int)(hk:0<=k/\k<1000000)(hf:0<=f/\f<2147483647):cy [.int c,.int k,.int f]=.ok (.int (wo c k f)):=by
 have h1:=emod_nonneg c (show(1000003:Int)≠0 by decide)
 have h2:=emod_lt_of_pos c (show(0:Int)<1000003 by decide)
 unfold cy wk
 simp -implicitDefEqProofs only [mS,mD,mF,gm,aP,reduceAdd,reduceSub,reduceEqDiff,reduceIte,ah,aj,aG,aH,aI,aJ]
 rw[gJ c 1000003 (by decide)]
 simp -implicitDefEqProofs only [R.kD,R.bV]
 rw[y9 _ 7 (.inr (by decide))]
 simp -implicitDefEqProofs only [R.kD,R.bV]
 rw[y9 k k (.inl (by omega))]
 simp -implicitDefEqProofs only [R.kD,R.bV,y8]
 rw[y9 _ f (.inr (by omega))]
 simp -implicitDefEqProofs only [R.kD,R.bV]
 rw[gJ _ 2147483647 (by decide)]
 simp -implicitDefEqProofs only [R.kD,R.bV]
 rw[nW _ 16 (by decide)]
 rfl
theorem Cc(c k f:Int):0<=wo c k f:=by
 unfold wo
 have h1:=emod_nonneg ((c%1000003*7+k*k+1)*f) (show(2147483647:Int)≠0 by decide)
 exact Int.ediv_nonneg h1 (by decide)
def lQ(s:Int):Int:=if s%13=5 then 1 else 2+s/13%6
theorem Cd(s:Int):eZ [.int s,.int 1,.int 7]=.ok (.int (lQ s)):=by
 unfold eZ n8 lQ
 simp -implicitDefEqProofs only [mS,mD,mF,gm,aP,reduceAdd,reduceSub,reduceEqDiff,reduceIte,ah,aj,aG,aH,aI,aJ]
 rw[gJ s 13 (by decide)]
 simp -implicitDefEqProofs only [reduceIte,ah,aj,aG,aH,aI,aJ,beq_self_eq_true]
 by_cases h:s%13=5
 ·simp -implicitDefEqProofs only [h,beq_self_eq_true,reduceIte,ah,aj,aG,aH,aI,aJ]
 ·have h':(s%13==5)=false:=beq_false_of_ne h
  simp -implicitDefEqProofs only [h',h,reduceIte,ah,aj,aG,aH,aI,aJ]
  rw[nW s 13 (by decide)]
  simp -implicitDefEqProofs only [reduceIte,ah,aj,aG,aH,aI,aJ]
  rw[gJ _ _ (by decide)]
  rfl
theorem Az(s:Int):1<=lQ s/\lQ s<=7:=by
 unfold lQ
 split<;>omega
def dw(x n:Int):Int:=if x/8%2=1 then-(1+x%(n-1))else 1+x%(n-1)
theorem wq(x n:Int)(h:2<=n):bh [.int x,.int n]=.ok (.int (dw x n)):=by
 unfold bh nk dw
 simp -implicitDefEqProofs only [mS,mD,mF,gm,aP,reduceAdd,reduceSub,reduceEqDiff,reduceIte,ah,aj,aG,aH,aI,aJ]
 rw[gJ x (n-1) (by omega)]
 simp -implicitDefEqProofs only [reduceIte,ah,aj,aG,aH,aI,aJ]
 rw[nW x 8 (by decide)]
 simp -implicitDefEqProofs only [reduceIte,ah,aj,aG,aH,aI,aJ]
 rw[gJ _ 2 (by decide)]
 simp -implicitDefEqProofs only [reduceIte,ah,aj,aG,aH,aI,aJ]
 by_cases hc:x/8%2=1
 ·simp -implicitDefEqProofs only [hc,beq_self_eq_true,reduceIte,ah,aj,aG,aH,aI,aJ]
 ·have GX:(x/8%2==1)=false:=beq_false_of_ne hc
  simp -implicitDefEqProofs only [hc,GX,reduceIte,ah,aj,aG,aH,aI,aJ]
def dF(n k:Int):Prop:=k≠0/\ -n<k/\k<n
theorem wu(x n:Int)(h:2<=n):dF n (dw x n):=by
 unfold dw dF
 have h1:=emod_nonneg x (show n-1≠0 by omega)
 have h2:=emod_lt_of_pos x (show 0<n-1 by omega)
 split<;>omega
def tw(k n:Int):Int:=if(if k+1<0 then-(k+1)else k+1)<n/\k+1≠0 then k+1 else k-1
def n9(x n:Int):List Int:=
 if x/16%4>0\/n<3 then[dw x n]else
  let k:=dw x n
  let o:=tw k n
  if x/64%4=0 then[k,o,k]else if x/64%4=1 then[k,o]else if x/64%4=2 then[k,k]else[k,-o,k]
theorem IP{k n:Int}(h:3<=n)(hk:dF n k):dF n (tw k n):=by
 unfold tw dF at*
 split<;>split at* <;>omega
theorem IQ{x n:Int}(h:2<=n):∀k∈n9 x n,dF n k:=by
 have h1:=wu x n h
 unfold n9
 split
 ·simp[h1]
 ·rename_i hc
  have h2:=IP (n:=n) (by omega) h1
  have h3:dF n (-tw (dw x n) n):=by unfold dF at*;omega
  dsimp only
  split
  ·simp[h1,h2]
  ·split
   ·simp[h1,h2]
   ·split<;>simp[h1,h3]
theorem yo(x n:Int):(n9 x n).length<=3:=by
 unfold n9
 split
 ·simp
 ·dsimp only
  split
  ·simp
  ·split
   ·simp
   ·split<;>simp
theorem IS(x n:Int)(h:2<=n):gM [.int x,.int n]=.ok (.lst (aK (n9 x n))):=by
 unfold gM rg n9
 simp -implicitDefEqProofs only [mS,mD,mF,gm,aP,reduceAdd,reduceSub,reduceEqDiff,reduceIte,ah,aj,aG,aH,aI,aJ]
 rw[wq x n h]
 simp -implicitDefEqProofs only [reduceIte,ah,aj,aG,aH,aI,aJ]
 rw[nW x 16 (by decide)]
 simp -implicitDefEqProofs only [reduceIte,ah,aj,aG,aH,aI,aJ]
 rw[gJ _ 4 (by decide)]
 simp -implicitDefEqProofs only [reduceIte,ah,aj,aG,aH,aI,aJ]
 by_cases h1:0<x/16%4
 ·have V7:x/16%4>0\/n<3:=.inl h1
  rw[if_pos V7]
  simp -implicitDefEqProofs only [h1,decide_true,reduceIte,ah,aj,aG,aH,aI,aJ]
  rfl
 ·by_cases h2:n<3
  ·have V7:x/16%4>0\/n<3:=.inr h2
   rw[if_pos V7]
   simp -implicitDefEqProofs only [h1,h2,decide_true,decide_false,reduceIte,ah,aj,aG,aH,aI,aJ]
   rfl
  ·have V7:¬(x/16%4>0\/n<3):=by omega
   rw[if_neg V7]
   simp -implicitDefEqProofs only [h1,h2,decide_false,reduceIte,ah,aj,aG,aH,aI,aJ]
   have ho:(R.bind (if decide ((if dw x n+1<0 then-(dw x n+1)else dw x n+1)<n)=true then R.ok (!(dw x n+1==0))else R.ok false) fun t=>if t=true then R.ok (D.int (dw x n+1))else R.ok (D.int (dw x n-1)))=R.ok (D.int (tw (dw x n) n)):=by
    unfold tw
    by_cases c1:(if dw x n+1<0 then-(dw x n+1)else dw x n+1)<n
    ·by_cases c2:dw x n+1=0
     ·simp[c1,c2,R.bV]
     ·simp[c1,c2,R.bV]
    ·simp[c1,R.bV]
   rw[ho]
   simp -implicitDefEqProofs only [reduceIte,ah,aj,aG,aH,aI,aJ]
   rw[nW x 64 (by decide)]
   simp -implicitDefEqProofs only [reduceIte,ah,aj,aG,aH,aI,aJ]
   rw[gJ _ 4 (by decide)]
   simp -implicitDefEqProofs only [reduceIte,ah,aj,aG,aH,aI,aJ]
   have h5:=emod_nonneg (x/64) (show(4:Int)≠0 by decide)
   have h6:=emod_lt_of_pos (x/64) (show(0:Int)<4 by decide)
   have h7:x/64%4=0\/x/64%4=1\/x/64%4=2\/x/64%4=3:=by omega
   rcases h7 with q|q|q|q<;>simp[q,L2.ig,L2.qH,R.kD,R.bV,R.HC,ah,aK]
def jn(n:Int)(cells:List Int)(i:Nat):List Int:=((range i).map fun k=>match cells[k]? with
 |some c=>n9 (wo c k 48271) n
 |none=>[]).flatten
theorem IU{n:Int}{cells:List Int}{i:Nat}{c:Int}(h:cells[i]?=some c):jn n cells (i+1)=jn n cells i++n9 (wo c i 48271) n:=by
 unfold jn
 rw[range_succ,map_append,flatten_append]
 simp[h]
theorem DJ(n:Int)(cells:List Int):∀i:Nat,(jn n cells i).length<=3*i
 |0=>by simp[jn]
 |i+1=>by
  unfold jn
  rw[range_succ,map_append,flatten_append,length_append]
  have ih:=DJ n cells i
  unfold jn at ih
  cases h:cells[i]? with
  |none=>simp -implicitDefEqProofs only [h,map_cons,map_nil,flatten_cons,List.flatten_nil,length_append,length_nil];omega
  |some c=>
   have:=yo (wo c i 48271) n
   simp -implicitDefEqProofs only [h,map_cons,map_nil,flatten_cons,List.flatten_nil,length_append,length_nil];omega
theorem Rz{n:Int}(hn:2<=n)(cells:List Int)(i:Nat):∀k∈jn n cells i,dF n k:=by
 intro k hk
 unfold jn at hk
 rw[List.mem_flatten]at hk
 obtain⟨l,hl,hk⟩:=hk
 rw[mem_map]at hl
 obtain⟨j,_,rfl⟩:=hl
 cases h:cells[j]? with
 |none=>rw[h]at hk;cases hk
 |some c=>rw[h]at hk;exact IQ hn k hk
def zj(cells:List Int)(n most:Int):List Int:=(if 1<n then jn n cells cells.length else[]).take most.toNat
theorem IV{cells:List Int}{n most:Int}:∀k∈zj cells n most,dF n k:=by
 intro k hk
 unfold zj at hk
 have:=mem_of_mem_take hk
 split at this
 ·exact Rz (by omega) _ _ k this
 ·cases this
theorem IW(cells:List Int)(n most:Int)(hc:cells.length<=1000)(hn:1<=n)(hm:0<=most):gO [.lst (aK cells),.int n,.int most]=.ok (aK (zj cells n most)):=by
 unfold gO rh
 simp -implicitDefEqProofs only [mS,mD,mF,gm,aP,reduceAdd,reduceSub,reduceEqDiff,reduceIte,ah,aj,aG,aH,aI,aJ]
 obtain⟨s',e,hj⟩:=qu (S:=List Int×Sl×Sl) (b:=jm)
  (fun i s=>s.1=if 1<n then jn n cells i else[]) (fun s=>[.val (.lst (aK cells)),.val (.int n),.val (.int most),.val (.lst (aK s.1)),s.2.1,s.2.2]) (dO (aK cells)) 0 ([],.no,.no) (by simp[jn]) (by
   rintro j ⟨wd,s4,s5⟩ x hs hx
   obtain⟨c,Xz,rfl⟩:=tj hx
   have hj:j<cells.length:=(List.getElem?_eq_some_iff.mp Xz).1
   rw[Nat.zero_add]at hs⊢
   have RA:wd=if 1<n then jn n cells j else[]:=hs
   unfold jm
   simp -implicitDefEqProofs only [ZC,reduceIte,ah,aj,aG,aH,aI,aJ]
   by_cases h1:1<n
   ·rw[if_pos h1]at RA
    subst RA
    have hl:=DJ n cells j
    have hl2:=yo (wo c j 48271) n
    refine⟨(jn n cells (j+1),.val (.int (j:Nat)),.val (.int c)),?_,by simp[h1]⟩
    simp -implicitDefEqProofs only [h1,decide_true,reduceIte,ah,aj,aG,aH,aI,aJ]
    rw[zh c j 48271 (by omega) (by decide)]
    simp -implicitDefEqProofs only [reduceIte,ah,aj,aG,aH,aI,aJ]
    rw[IS _ n (by omega)]
    simp -implicitDefEqProofs only [reduceIte,ah,aj,aG,aH,aI,aJ,iQ]
    rw[b7 (by rw[length_append];omega)]
    simp -implicitDefEqProofs only [reduceIte,ah,aj,aG,aH,aI,aJ,IU Xz]
   ·rw[if_neg h1]at RA
    subst RA
    exact⟨([],.val (.int (j:Nat)),.val (.int c)),by simp -implicitDefEqProofs only [h1,decide_false,reduceIte,ah,aj,aG,aH,aI,aJ],by simp[h1]⟩)
 obtain⟨wd,s4,s5⟩:=s'
 have Ce:wd=if 1<n then jn n cells (0+(dO (aK cells)).length)else[]:=hj
 have he:(dO (aK cells)).length=cells.length:=by rw[FJ,bc]
 rw[Nat.zero_add,he]at Ce
 rw[show aK []=[]from rfl]at e
 rw[e]
 simp -implicitDefEqProofs only [reduceIte,ah,aj,aG,aH,aI,aJ,jE]
 rw[qw _ _ hm,gK]
 simp -implicitDefEqProofs only [reduceIte,ah,aj,aG,aH,aI,aJ,Ce]
 rfl
theorem DK{w:List Int}{j:Nat}{x:D}(h:(aK w)[j]?=some x):∃k,w[j]?=some k/\x=.int k:=by
 rw[Mi]at h
 cases q:w[j]? with
 |none=>rw[q]at h;cases h
 |some k=>rw[q]at h;cases h;exact⟨k,rfl,rfl⟩
theorem AA{α:Type}{w:List α}{j:Nat}{k:α}(h:w[j]?=some k):w.take (j+1)=w.take j++[k]:=by
 rw[take_succ,h];rfl
theorem V8{K:PySem.W.Frag}{H:Hp}{a:Addr}{m:List D->R D}{ns:List Int}(h:m [.lst (aK ns)]=.ok (.bl true))(hS:cX K H a (ns.map V.int)):Dh K GK m [.ref a] H (fun v _=>v=.bl true) fun _ _ _=>False:=by
 refine⟨Tr,[.lst (aK ns)],IsL.one ⟨a,_,rfl,uE.any hS,?_⟩,?_⟩
 ·clear h hS
  induction ns with
  |nil=>rfl
  |cons x r ih=>exact⟨_,_,rfl,rfl,ih⟩
 ·rw[h]
  intro v H' _ i
  exact i
def AB(env:DE):R Bool:=
 R.ok true
def AD(env:DE):R D:=
 (R.bind (aX 0 env) fun v6=>R.of (qP v6))
def AE(env:DE):R Out:=
 (R.bind (R.bind (R.bind (bG 0 env) fun v7=>R.bind (vR v7) fun xs=>R.ok (reverse xs)) fun v2=>R.bind (jk env []) fun v3=>R.bind (R.ne (dN (bN 0) AB AD (lI 1 v3) v2)) fit) fun v1=>R.ok (Out.o8 v1))
def og:=gm 1 1 AE
def mE(d:D)(env:DE):R Out:=
 R.bind ((bN 2) d env) fun v7=>
  (R.bind (R.bind (R.bind (R.bind (R.bind (aX 1 v7) fun kj=>R.bind (R.ok []) fun gz=>R.ok (kj::gz)) fun lL=>R.of (my lL)) fun v10=>R.bind (R.ok (D.int 0)) fun v11=>R.bind (R.of (xK v10 v11)) fH) fun v9=>if v9=true then(R.bind (R.bind (gD 1 v7) fun lN=>R.bind (R.bind (R.ok (D.int 1)) fun lP=>R.of (qP lP)) fun kL=>p8 lN kL) fun lu=>R.bind (R.bind (aX 2 v7) fun v20=>R.of (qP v20)) fun lM=>R.bind (R.of (uk lu lM)) fH)else R.ok false) fun v8=>if v8=true then(R.bind (ownAt 1 v7) fun rf=>Rg 1 v7 rf)else(R.bind (ownAt 1 v7) fun jl=>R.bind (bG 2 v7) fun q8=>Rf 1 v7 jl q8))
def yp(env:DE):R Out:=
 (aV (R.bind (R.bind (R.ok []) fit) fun v2=>R.ok (Out.nx (List.set env 1 (Sl.own v2)))) fun v1=>
 (aV (R.bind (R.bind (bG 0 v1) vR) fun v4=>gG mE v4 v1) fun v3=>
 (R.bind (ownAt 1 v3) fun q9=>R.ok (Out.o8 q9))))
def lR:=gm 1 3 yp
def wx(env:DE):R Out:=
 (R.bind (R.bind (R.bind (aX 0 env) fun v2=>R.bind (R.ok []) fun v3=>R.ok (v2::v3)) mC) fun v1=>R.ok (Out.o8 v1))
def cZ:=gm 1 1 wx
def IX(env:DE):R Out:=
 (R.bind (R.bind (R.bind (R.bind (aX 0 env) fun v4=>R.bind (R.ok (D.int 1)) fun v5=>R.of (jD v4 v5)) fun v2=>R.bind (R.bind (R.bind (R.ok (D.int 1)) fun v8=>R.of (qP v8)) fun v6=>R.bind (R.bind (R.bind (R.ok (D.int 1)) fun v11=>R.of (qP v11)) fun v9=>R.bind (R.ok []) fun v10=>R.ok (v9::v10)) fun v7=>R.ok (v6::v7)) fun v3=>R.ok (v2::v3)) Ih) fun v1=>R.ok (Out.o8 v1))
def wy:=gm 1 1 IX
def jR(d:D)(env:DE):R Out:=
 R.bind ((bT 2 (jx (bN 2) (jx (bN 3) xQ))) d env) fun gz=>
  (R.bind (bG 2 gz) fun lu=>R.bind (ownAt 1 gz) fun lM=>R.bind (aX 3 gz) fun lN=>Ao 1 gz lu lM lN)
def uo(env:DE):R Out:=
 (aV (R.bind (R.bind (R.bind (R.bind (R.ok (D.int 0)) fun v5=>R.bind (R.ok []) fun v6=>R.ok (v5::v6)) fit) fun v3=>R.bind (R.bind (R.bind (aX 0 env) fun v8=>R.bind (R.ok []) fun v9=>R.ok (v8::v9)) fun v7=>R.of (my v7)) fun v4=>Mc v3 v4) fun v2=>R.ok (Out.nx (List.set env 1 (Sl.own v2)))) fun v1=>
 (aV (R.bind (R.bind (bG 0 v1) fun kL=>R.bind (vR kL) fun xs=>R.ok (dO xs)) fun v11=>gG jR v11 v1) fun v10=>
 (R.bind (ownAt 1 v10) fun lP=>R.ok (Out.o8 lP))))
def b9:=gm 1 4 uo
def wz(env:DE):R Bool:=
 (R.bind (R.bind (gD 1 env) fun v8=>R.bind (R.bind (aX 0 env) fun v10=>R.bind (R.ok (D.int 1)) fun v11=>R.of (jD v10 v11)) fun v9=>p8 v8 v9) fun v6=>R.bind (R.bind (gD 1 env) fun lL=>R.bind (aX 0 env) fun kj=>p8 lL kj) fun v7=>R.bind (R.of (xK v6 v7)) fH)
def wA(env:DE):R D:=
 (bG 0 env)
def DM(env:DE):R Out:=
 (R.bind (R.bind (R.bind (R.bind (R.ok (D.int 1)) fun gz=>R.bind (R.bind (R.bind (R.bind (aX 0 env) fun lP=>R.bind (R.ok []) fun v20=>R.ok (lP::v20)) fun kL=>R.of (my kL)) fun lM=>R.bind (R.ok []) fun lN=>R.ok (lM::lN)) fun lu=>R.ok (gz::lu)) FE) fun v2=>R.bind (jk env [0]) fun v3=>R.bind (R.ne (dN (bN 0) wz wA (lI 1 v3) v2)) fit) fun v1=>R.ok (Out.o8 v1))
def pB:=gm 1 1 DM
def gP(env:DE):R Out:=
 (R.bind (R.bind (R.bind (R.bind (gD 0 env) fun v6=>R.bind (R.ok none) fun v7=>R.bind (R.bind (R.bind (aX 1 env) fun v9=>R.bind (R.ok (D.int 1)) fun v10=>R.of (jD v9 v10)) zP) fun v8=>R.ok (cut v6 v7 v8)) fun v4=>R.bind (R.bind (R.bind (R.bind (gD 0 env) fun kj=>R.bind (aX 1 env) fun gz=>p8 kj gz) fun v11=>R.bind (R.bind (R.bind (gD 0 env) fun lN=>R.bind (R.bind (aX 1 env) fun lP=>R.bind (R.ok (D.int 1)) fun v20=>R.of (jD lP v20)) fun kL=>p8 lN kL) fun lu=>R.bind (R.ok []) fun lM=>R.ok (lu::lM)) fun lL=>R.ok (v11::lL)) fit) fun v5=>fit (v4++v5)) fun v2=>R.bind (R.bind (gD 0 env) fun rf=>R.bind (R.bind (R.bind (aX 1 env) fun q9=>R.bind (R.ok (D.int 1)) fun tm=>R.of (eu q9 tm)) zP) fun jl=>R.bind (R.ok none) fun q8=>R.ok (cut rf jl q8)) fun v3=>fit (v2++v3)) fun v1=>R.ok (Out.o8 v1))
def aQ:=gm 2 2 gP
def tE(env:DE):R Bool:=
 R.ok true
def lS(env:DE):R D:=
 (R.bind (R.bind (R.bind (R.bind (aX 1 env) fun v11=>R.bind (R.ok []) fun lL=>R.ok (v11::lL)) fun v10=>R.of (my v10)) fun v8=>R.bind (R.ok (D.int 1)) fun v9=>R.of (jD v8 v9)) fun v6=>R.bind (aX 0 env) fun v7=>R.of (jD v6 v7))
def qc(env:DE):R Out:=
 (R.bind (R.bind (R.bind (bG 0 env) fun kj=>R.bind (vR kj) fun xs=>R.ok (reverse xs)) fun v2=>R.bind (jk env [0]) fun v3=>R.bind (R.ne (dN (bN 0) tE lS (lI 1 v3) v2)) fit) fun v1=>R.ok (Out.o8 v1))
def fJ:=gm 1 1 qc
def jF(d:D)(env:DE):R Out:=
 R.bind ((bN 2) d env) fun v7=>
  (R.bind (bG 1 v7) fun v8=>R.bind (R.bind (R.ok (D.int 1)) fun v10=>R.bind (R.bind (aX 2 v7) fun lL=>R.bind (R.ok (D.int 1)) fun kj=>R.of (jD lL kj)) fun v11=>R.of (Mp v10 v11)) fun v9=>FI (fun i j=>PySem.Builtin.bitOr i j) 1 v7 v8 v9)
def yq(env:DE):R Out:=
 (aV (R.bind (R.ok (D.int 0)) fun v2=>R.ok (Out.nx (List.set env 1 (Sl.val v2)))) fun v1=>
 (aV (R.bind (R.bind (bG 0 v1) vR) fun v4=>gG jF v4 v1) fun v3=>
 (R.bind (bG 1 v3) fun gz=>R.ok (Out.rt gz))))
def lT:=mS 1 3 yq
def oh(env:DE):R Out:=
 (aV (R.bind (R.bind (aX 1 env) fun v3=>R.bind (R.bind (R.bind (aX 0 env) fun v6=>R.bind (R.ok []) fun v7=>R.ok (v6::v7)) fun v5=>R.of (my v5)) fun v4=>R.bind (R.of (K4 v3 v4)) fH) fun v2=>if v2=true then(R.bind (R.bind (gD 0 env) fun v9=>R.bind (aX 1 env) fun v10=>p8 v9 v10) fun v8=>R.ok (Out.rt v8))else(R.ok (Out.nx env))) fun v1=>
 (R.bind (R.ok (D.int 0)) fun v11=>R.ok (Out.rt v11)))
def dz:=mS 2 2 oh
def uq(env:DE):R Out:=
 (aV (R.bind (R.bind (bG 1 env) fun v3=>R.bind (R.ok (D.int 1)) fun v4=>sU v3 v4) fun v2=>R.ok (Out.nx (List.set env 2 (Sl.val v2)))) fun v1=>
 (aV (R.bind (R.bind (R.bind (bG 1 v1) fun v9=>R.bind (R.ok (D.int 0)) fun v10=>sU v9 v10) fun v7=>R.bind (R.ok (D.str "out")) fun v8=>R.bind (R.of (uk v7 v8)) fH) fun v6=>if v6=true then(R.bind (R.bind (R.bind (gD 0 v1) fun gz=>R.bind (R.ok none) fun lu=>R.bind (R.bind (aX 2 v1) zP) fun lM=>R.ok (cut gz lu lM)) fun lL=>R.bind (R.bind (gD 0 v1) fun lN=>R.bind (R.bind (R.bind (aX 2 v1) fun v20=>R.bind (R.ok (D.int 2)) fun rf=>R.of (eu v20 rf)) zP) fun kL=>R.bind (R.ok none) fun lP=>R.ok (cut lN kL lP)) fun kj=>fit (lL++kj)) fun v11=>R.ok (Out.o8 v11))else(R.ok (Out.nx v1))) fun v5=>
 (aV (R.bind (R.bind (R.bind (bG 1 v5) fun uH=>R.bind (R.ok (D.int 0)) fun wm=>sU uH wm) fun q9=>R.bind (R.ok (D.str "in")) fun tm=>R.bind (R.of (uk q9 tm)) fH) fun q8=>if q8=true then(R.bind (R.bind (R.bind (R.bind (gD 0 v5) fun FU=>R.bind (R.ok none) fun FW=>R.bind (R.bind (aX 2 v5) zP) fun FT=>R.ok (cut FU FW FT)) fun B8=>R.bind (R.bind (R.bind (R.bind (bG 1 v5) fun GO=>R.bind (R.ok (D.int 2)) fun FZ=>sU GO FZ) fun Ay=>R.bind (R.bind (R.bind (R.bind (bG 1 v5) fun xS=>R.bind (R.ok (D.int 2)) fun DI=>sU xS DI) fun Bu=>R.of (qP Bu)) fun GQ=>R.bind (R.ok []) fun IM=>R.ok (GQ::IM)) fun FY=>R.ok (Ay::FY)) fit) fun B9=>fit (B8++B9)) fun zg=>R.bind (R.bind (gD 0 v5) fun xR=>R.bind (R.bind (aX 2 v5) zP) fun F5=>R.bind (R.ok none) fun F0=>R.ok (cut xR F5 F0)) fun v30=>fit (zg++v30)) fun zf=>R.ok (Out.o8 zf))else(R.ok (Out.nx v5))) fun jl=>
 (aV (R.bind (R.bind (R.bind (bG 1 jl) fun DH=>R.bind (R.ok (D.int 0)) fun Ip=>sU DH Ip) fun F4=>R.bind (R.ok (D.str "far")) fun ym=>R.bind (R.of (uk F4 ym)) fH) fun F3=>if F3=true then(R.bind (R.bind (R.bind (R.bind (gD 0 jl) fun yn=>R.bind (R.ok none) fun IB=>R.bind (R.bind (aX 2 jl) zP) fun Cb=>R.ok (cut yn IB Cb)) fun Ca=>R.bind (R.bind (R.bind (R.bind (gD 0 jl) fun Iz=>R.bind (R.bind (aX 2 jl) fun Iw=>R.bind (R.ok (D.int 1)) fun IJ=>R.of (eu Iw IJ)) fun Iu=>p8 Iz Iu) fun IA=>R.bind (R.bind (R.bind (gD 0 jl) fun IC=>R.bind (aX 2 jl) fun IG=>p8 IC IG) fun IK=>R.bind (R.ok []) fun II=>R.ok (IK::II)) fun Ir=>R.ok (IA::Ir)) fit) fun Im=>fit (Ca++Im)) fun Io=>R.bind (R.bind (gD 0 jl) fun IE=>R.bind (R.bind (R.bind (aX 2 jl) fun Mx=>R.bind (R.ok (D.int 2)) fun My=>R.of (eu Mx My)) zP) fun IF=>R.bind (R.ok none) fun ID=>R.ok (cut IE IF ID)) fun Il=>fit (Io++Il)) fun Mz=>R.ok (Out.o8 Mz))else(R.ok (Out.nx jl))) fun xx=>
 (R.bind (R.bind (R.bind (R.bind (gD 0 xx) fun DN=>R.bind (R.ok none) fun RB=>R.bind (R.bind (aX 2 xx) zP) fun V9=>R.ok (cut DN RB V9)) fun MA=>R.bind (R.bind (R.bind (R.bind (gD 0 xx) fun RD=>R.bind (R.bind (aX 2 xx) fun RE=>R.bind (R.ok (D.int 1)) fun RG=>R.of (eu RE RG)) fun RH=>p8 RD RH) fun Wa=>R.bind (R.bind (R.bind (gD 0 xx) fun RJ=>R.bind (aX 2 xx) fun RK=>p8 RJ RK) fun RL=>R.bind (R.bind (R.bind (gD 0 xx) fun RM=>R.bind (R.bind (aX 2 xx) fun RN=>R.bind (R.ok (D.int 1)) fun Cf=>R.of (eu RN Cf)) fun RO=>p8 RM RO) fun RQ=>R.bind (R.ok []) fun RT=>R.ok (RQ::RT)) fun RU=>R.ok (RL::RU)) fun Bv=>R.ok (Wa::Bv)) fit) fun RV=>fit (MA++RV)) fun MC=>R.bind (R.bind (gD 0 xx) fun Cg=>R.bind (R.bind (R.bind (aX 2 xx) fun Ci=>R.bind (R.ok (D.int 3)) fun Cj=>R.of (eu Ci Cj)) zP) fun Ck=>R.bind (R.ok none) fun Cm=>R.ok (cut Cg Ck Cm)) fun IL=>fit (MC++IL)) fun MB=>R.ok (Out.o8 MB))))))
def i9:=gm 2 3 uq
def rn(env:DE):R Bool:=
 (R.bind (R.bind (R.bind (R.bind (aX 0 env) fun Ca=>B1 "int" Ca) fH) fun Il=>R.ok (!Il)) fun Io=>if Io=true then R.ok true else(R.bind (R.bind (aX 0 env) fun Im=>B1 "bool" Im) fH))
def rq(env:DE):R D:=
 (bG 0 env)
def eB(d:D)(env:DE):R Out:=
 R.bind ((bN 4) d env) fun Bv=>
  (R.bind (R.bind (R.bind (aX 2 Bv) fun RE=>R.bind (R.ok D.non) fun RG=>R.bind (R.of (um RE RG)) fH) fun RH=>if RH=true then(R.bind (R.bind (R.bind (gD 3 Bv) fun RK=>R.bind (R.bind (aX 4 Bv) fun RT=>R.bind (R.ok (D.int 1)) fun RM=>R.of (jD RT RM)) fun RQ=>nZ RK RQ) fun RU=>R.bind (R.bind (gD 3 Bv) fun RO=>R.bind (aX 4 Bv) fun RN=>nZ RO RN) fun RJ=>R.bind (R.of (xK RU RJ)) fH) fun RL=>if RL=true then(R.bind (R.bind (bG 2 Bv) fun Ck=>R.bind (R.bind (aX 4 Bv) fun Ci=>R.bind (R.ok (D.int 1)) fun Cj=>R.of (jD Ci Cj)) fun Cm=>sU Ck Cm) fun Cf=>R.bind (R.bind (bG 2 Bv) fun IY=>R.bind (aX 4 Bv) fun IZ=>sU IY IZ) fun Cg=>R.bind (R.of (K4 Cf Cg)) fH)else R.ok false)else R.ok false) fun RD=>if RD=true then(R.bind (R.ok (D.bl false)) fun I0=>R.ok (Out.rt I0))else(R.ok (Out.nx Bv)))
def eI(d:D)(env:DE):R Out:=
 R.bind ((bN 3) d env) fun Bu=>
  (aV (R.bind (R.bind (R.bind (R.bind (R.bind (aX 3 Bu) fun F0=>B1 "list" F0) fH) fun F5=>R.ok (!F5)) fun xR=>if xR=true then R.ok true else(R.bind (R.bind (R.bind (R.bind (bG 3 Bu) vR) fun ym=>R.bind (jk Bu []) fun DH=>R.bind (R.ne (dN (bN 0) rn rq (lI 1 DH) ym)) fit) fun F4=>R.ok (D.lst F4)) fun xx=>R.bind (R.bind (R.bind (R.ok []) fit) fun yn=>R.ok (D.lst yn)) fun F3=>R.bind (R.of (y7 xx F3)) fH)) fun DI=>if DI=true then(R.bind (R.ok (D.bl false)) fun IB=>R.ok (Out.rt IB))else(R.ok (Out.nx Bu))) fun xS=>
 (aV (R.bind (R.bind (R.bind (R.bind (R.bind (gD 3 xS) Ar) fun Iw=>R.ok (D.lst Iw)) fun Iz=>R.bind (R.bind (R.bind (R.bind (aX 1 xS) fun IK=>R.bind (R.ok []) fun II=>R.ok (IK::II)) mC) fun IJ=>R.ok (D.lst IJ)) fun Iu=>R.bind (R.of (y7 Iz Iu)) fH) fun Ir=>if Ir=true then R.ok true else(R.bind (R.bind (aX 3 xS) fun IG=>R.bind (R.bind (R.bind (R.bind (aX 1 xS) fun ID=>R.bind (R.ok []) fun Mx=>R.ok (ID::Mx)) mC) fun IF=>R.ok (D.lst IF)) fun IE=>R.bind (R.of (uk IG IE)) fH) fun IC=>if IC=true then R.ok true else(R.bind (aX 3 xS) fun My=>R.bind (R.bind (R.bind (R.bind (aX 1 xS) fun IL=>R.bind (R.ok []) fun MA=>R.ok (IL::MA)) Aw) fun MC=>R.ok (D.lst MC)) fun MB=>R.bind (R.of (uk My MB)) fH))) fun IA=>if IA=true then(R.bind (R.ok (D.bl false)) fun RV=>R.ok (Out.rt RV))else(R.ok (Out.nx xS))) fun Cb=>
 (aV (R.bind (R.bind (R.bind (R.ok (D.int 1)) fun I8=>R.bind (R.bind (aX 1 Cb) fun I9=>R.bind (R.ok []) fun Ja=>R.ok (I9::Ja)) fun Cn=>R.ok (I8::Cn)) FE) fun RB=>gG eB RB Cb) fun DN=>
 (R.bind (bG 3 DN) fun Jb=>R.ok (Out.nx (List.set DN 2 (Sl.val Jb)))))))
def oi(env:DE):R Out:=
 (aV (R.bind (R.bind (R.bind (R.bind (R.bind (aX 0 env) fun v5=>B1 "tuple" v5) fH) fun v4=>R.ok (!v4)) fun v3=>if v3=true then R.ok true else(R.bind (R.bind (R.bind (R.bind (aX 0 env) fun v10=>R.bind (R.ok []) fun v11=>R.ok (v10::v11)) fun v9=>R.of (my v9)) fun v7=>R.bind (R.ok (D.int 2)) fun v8=>R.bind (R.of (y7 v7 v8)) fH) fun v6=>if v6=true then R.ok true else(R.bind (R.bind (R.bind (R.bind (bG 0 env) fun gz=>R.bind (R.ok (D.int 1)) fun lu=>sU gz lu) fun kj=>B1 "list" kj) fH) fun lL=>R.ok (!lL)))) fun v2=>if v2=true then(R.bind (R.ok (D.bl false)) fun lM=>R.ok (Out.rt lM))else(R.ok (Out.nx env))) fun v1=>
 (aV (R.bind (R.bind (R.bind (R.bind (R.bind (R.bind (bG 0 v1) fun jl=>R.bind (R.ok (D.int 0)) fun q8=>sU jl q8) fun rf=>B1 "int" rf) fH) fun v20=>R.ok (!v20)) fun lP=>if lP=true then R.ok true else(R.bind (R.bind (R.bind (R.bind (bG 0 v1) fun uH=>R.bind (R.ok (D.int 0)) fun wm=>sU uH wm) fun tm=>B1 "bool" tm) fH) fun q9=>if q9=true then R.ok true else(R.bind (R.bind (aX 1 v1) fun zg=>R.bind (R.ok (D.int 1)) fun v30=>R.bind (R.of (uk zg v30)) fH) fun zf=>if zf=true then(R.bind (R.bind (bG 0 v1) fun FU=>R.bind (R.ok (D.int 0)) fun FW=>sU FU FW) fun B8=>R.bind (R.ok (D.int 0)) fun B9=>R.bind (R.of (y7 B8 B9)) fH)else R.ok false))) fun kL=>if kL=true then(R.bind (R.ok (D.bl false)) fun FT=>R.ok (Out.rt FT))else(R.ok (Out.nx v1))) fun lN=>
 (aV (R.bind (R.ok D.non) fun FY=>R.ok (Out.nx (List.set lN 2 (Sl.val FY)))) fun Ay=>
 (aV (R.bind (R.bind (R.bind (bG 0 Ay) fun Jc=>R.bind (R.ok (D.int 1)) fun Jd=>sU Jc Jd) vR) fun FZ=>gG eI FZ Ay) fun GO=>
 (R.bind (R.ok (D.bl true)) fun Je=>R.ok (Out.rt Je))))))
def cA:=mS 2 5 oi
def AF(env:DE):R Out:=
 (R.bind (R.bind (R.bind (R.bind (R.bind (R.bind (bG 0 env) fun v5=>R.bind (R.ok []) fun v6=>R.ok (v5::v6)) b9) fun v4=>R.ok (D.lst v4)) fun v2=>R.bind (R.ok []) fun v3=>R.ok (v2::v3)) pB) fun v1=>R.ok (Out.o8 v1))
def rz:=gm 1 1 AF
def iB(env:DE):R Out:=
 (R.bind (R.bind (R.bind (R.bind (R.bind (R.bind (R.bind (R.bind (R.bind (bG 0 env) fun v8=>R.bind (R.ok []) fun v9=>R.ok (v8::v9)) b9) fun v7=>R.ok (D.lst v7)) fun v5=>R.bind (R.bind (bG 1 env) fun v10=>R.bind (R.ok []) fun v11=>R.ok (v10::v11)) fun v6=>R.ok (v5::v6)) aQ) fun v4=>R.ok (D.lst v4)) fun v2=>R.bind (R.ok []) fun v3=>R.ok (v2::v3)) b9) fun v1=>R.ok (Out.o8 v1))
def cF:=gm 2 2 iB
def kM(d:D)(env:DE):R Out:=
 R.bind ((bN 3) d env) fun v9=>
  (aV (R.bind (R.bind (aX 3 v9) fun lL=>R.bind (R.ok (D.int 0)) fun kj=>R.bind (R.of (K4 lL kj)) fH) fun v11=>if v11=true then(R.bad:R Out)else(R.ok (Out.nx v9))) fun v10=>
 (aV (R.bind (R.bind (R.bind (gD 2 v10) fun kL=>R.bind (R.bind (aX 3 v10) fun v20=>R.bind (R.ok (D.int 1)) fun rf=>R.of (jD v20 rf)) fun lP=>p8 kL lP) fun lM=>R.bind (R.bind (gD 2 v10) fun jl=>R.bind (aX 3 v10) fun q8=>p8 jl q8) fun lN=>R.bind (R.of (xK lM lN)) fH) fun lu=>if lu=true then(R.bad:R Out)else(R.ok (Out.nx v10))) fun gz=>
 (R.bind (R.bind (R.bind (aX 2 gz) fun tm=>R.bind (R.bind (aX 3 gz) fun wm=>R.bind (R.ok []) fun zf=>R.ok (wm::zf)) fun uH=>R.ok (tm::uH)) aQ) fun q9=>R.ok (Out.nx (List.set gz 2 (Sl.own q9))))))
def AG(env:DE):R Out:=
 (aV (R.bind (R.bind (R.bind (bG 0 env) fun v3=>R.bind (R.ok []) fun v4=>R.ok (v3::v4)) cZ) fun v2=>R.ok (Out.nx (List.set env 2 (Sl.own v2)))) fun v1=>
 (aV (R.bind (R.bind (bG 1 v1) vR) fun v6=>gG kM v6 v1) fun v5=>
 (R.bind (ownAt 2 v5) fun zg=>R.ok (Out.o8 zg))))
def lU:=gm 2 4 AG
def Co(env:DE):R Bool:=
 R.ok true
def wB(env:DE):R D:=
 (R.bind (R.bind (R.bind (R.bind (aX 1 env) fun v11=>R.bind (R.ok []) fun lL=>R.ok (v11::lL)) fun v10=>R.of (my v10)) fun v8=>R.bind (R.ok (D.int 1)) fun v9=>R.of (jD v8 v9)) fun v6=>R.bind (aX 0 env) fun v7=>R.of (jD v6 v7))
def DP(env:DE):R Out:=
 (R.bind (R.bind (R.bind (R.bind (R.bind (R.bind (bG 0 env) fun gz=>R.bind (R.ok []) fun lu=>R.ok (gz::lu)) b9) fun kj=>R.ok (D.lst kj)) vR) fun v2=>R.bind (jk env [0]) fun v3=>R.bind (R.ne (dN (bN 0) Co wB (lI 1 v3) v2)) fit) fun v1=>R.ok (Out.o8 v1))
def rA:=gm 1 1 DP
def om(d:D)(env:DE):R Out:=
 R.bind ((bN 5) d env) fun kj=>
  (aV (R.bind (R.bind (R.bind (aX 5 kj) fun lN=>R.bind (R.ok []) fun kL=>R.ok (lN::kL)) fun lM=>R.of (y4 lM)) fun lu=>R.ok (Out.nx (List.set kj 6 (Sl.val lu)))) fun gz=>
 (aV (R.bind (R.bind (R.bind (R.bind (R.bind (aX 2 gz) fun tm=>R.bind (R.ok []) fun uH=>R.ok (tm::uH)) fun q9=>R.of (my q9)) fun jl=>R.bind (R.ok (D.int 0)) fun q8=>R.bind (R.of (uk jl q8)) fH) fun rf=>if rf=true then R.ok true else(R.bind (R.bind (aX 4 gz) fun zf=>R.bind (R.bind (aX 5 gz) fun v30=>R.bind (R.ok (D.int 0)) fun B8=>R.of (xK v30 B8)) fun zg=>R.bind (R.of (y7 zf zg)) fH) fun wm=>if wm=true then R.ok true else(R.bind (R.bind (gD 3 gz) fun FW=>R.bind (R.bind (aX 6 gz) fun Ay=>R.bind (R.ok (D.int 1)) fun FY=>R.of (jD Ay FY)) fun FT=>p8 FW FT) fun B9=>R.bind (R.bind (gD 3 gz) fun GO=>R.bind (aX 6 gz) fun FZ=>p8 GO FZ) fun FU=>R.bind (R.of (xK B9 FU)) fH))) fun v20=>if v20=true then(aV (R.bind (gb 2 gz) fun IM=>R.bind (R.bind (R.ok []) fit) fun Bu=>R.bind (R.of (Dz Bu)) fun xS=>Ik 2 gz IM xS) fun GQ=>
 (aV (R.bind (R.bind (R.bind (bG 0 GQ) fun F5=>R.bind (R.ok []) fun F0=>R.ok (F5::F0)) cZ) fun xR=>R.ok (Out.nx (List.set GQ 3 (Sl.own xR)))) fun DI=>
 (R.bind (R.bind (aX 5 DI) fun F3=>R.bind (R.ok (D.int 0)) fun F4=>R.of (xK F3 F4)) fun xx=>R.ok (Out.nx (List.set DI 4 (Sl.val xx))))))else(R.ok (Out.nx gz))) fun lP=>
 (aV (R.bind (gb 2 lP) fun DH=>R.bind (R.bind (R.ok (D.int 1)) fun Il=>R.of (qP Il)) fun Ip=>R.bind (Av DH Ip) fun Mz=>R.bind (aX 5 lP) fun Io=>B7 2 lP DH Mz Io) fun ym=>
 (aV (R.bind (R.bind (gD 3 ym) fun yn=>R.bind (aX 6 ym) fun IB=>p8 yn IB) fun Im=>R.ok (Out.nx (List.set ym 7 (Sl.val Im)))) fun Ca=>
 (aV (R.bind (R.bind (gD 3 Ca) fun Iu=>R.bind (R.bind (aX 6 Ca) fun IJ=>R.bind (R.ok (D.int 1)) fun IK=>R.of (jD IJ IK)) fun Iw=>p8 Iu Iw) fun IA=>R.bind (ownAt 3 Ca) fun Ir=>R.bind (aX 6 Ca) fun Iz=>Ao 3 Ca IA Ir Iz) fun Cb=>
 (R.bind (bG 7 Cb) fun II=>R.bind (ownAt 3 Cb) fun IC=>R.bind (R.bind (aX 6 Cb) fun IE=>R.bind (R.ok (D.int 1)) fun IF=>R.of (jD IE IF)) fun IG=>Ao 3 Cb II IC IG))))))
def O1(env:DE):R Out:=
 (aV (R.bind (R.ok ([]:List (List Int))) fun v2=>(R.bind (fit v2) fun y=>R.ok (Out.nx (List.set env 2 (Sl.deep (Ct.ls y)))))) fun v1=>
 (aV (R.bind (R.bind (R.bind (bG 0 v1) fun v5=>R.bind (R.ok []) fun v6=>R.ok (v5::v6)) cZ) fun v4=>R.ok (Out.nx (List.set v1 3 (Sl.own v4)))) fun v3=>
 (aV (R.bind (R.ok (D.bl false)) fun v8=>R.ok (Out.nx (List.set v3 4 (Sl.val v8)))) fun v7=>
 (aV (R.bind (R.bind (bG 1 v7) vR) fun v10=>gG om v10 v7) fun v9=>
 (R.bind (gb 2 v9) fun ID=>R.ok (Out.Dc ID))))))
def AH:=mT 2 8 O1
def qd(env:DE):R Out:=
 (aV (R.bind (R.bind (R.bind (aX 0 env) fun v5=>R.bind (R.ok (D.int 2)) fun v6=>R.of (nT v5 v6)) fun v3=>R.bind (R.ok (D.int 0)) fun v4=>R.bind (R.of (uk v3 v4)) fH) fun v2=>if v2=true then(R.bind (gD 1 env) fun v7=>R.ok (Out.o8 v7))else(R.ok (Out.nx env))) fun v1=>
 (R.bind (R.bind (R.bind (bG 1 v1) fun v9=>R.bind (R.ok []) fun v10=>R.ok (v9::v10)) fJ) fun v8=>R.ok (Out.o8 v8)))
def fK:=gm 2 2 qd
def ur(env:DE):R Out:=
 (aV (R.bind (R.bind (aX 2 env) fun v3=>R.bind (R.bind (R.bind (R.bind (aX 0 env) fun v8=>R.bind (R.ok []) fun v9=>R.ok (v8::v9)) fun v7=>R.of (my v7)) fun v5=>R.bind (R.ok (D.int 1)) fun v6=>R.of (eu v5 v6)) fun v4=>R.of (nT v3 v4)) fun v2=>R.ok (Out.nx (List.set env 4 (Sl.val v2)))) fun v1=>
 (aV (R.bind (R.bind (R.bind (gD 0 v1) fun kj=>R.bind (R.bind (aX 4 v1) zP) fun gz=>R.bind (R.bind (R.bind (aX 4 v1) fun lM=>R.bind (R.ok (D.int 3)) fun lN=>R.of (eu lM lN)) zP) fun lu=>R.ok (cut kj gz lu)) fun lL=>R.ok (D.lst lL)) fun v11=>R.ok (Out.nx (List.set v1 5 (Sl.val v11)))) fun v10=>
 (aV (R.bind (R.bind (R.bind (R.bind (R.bind (aX 5 v10) fun q9=>R.bind (R.ok []) fun tm=>R.ok (q9::tm)) fun q8=>R.of (my q8)) fun rf=>R.bind (R.ok (D.int 1)) fun jl=>R.bind (R.of (xK rf jl)) fH) fun v20=>if v20=true then(R.bind (R.bind (R.bind (gD 5 v10) fun zg=>R.bind (R.ok (D.int 0)) fun v30=>p8 zg v30) fun wm=>R.bind (R.bind (R.bind (gD 5 v10) fun B9=>R.bind (R.ok (D.int 1)) fun FU=>p8 B9 FU) fun B8=>R.of (qP B8)) fun zf=>R.bind (R.of (uk wm zf)) fH) fun uH=>if uH=true then(R.bind (R.bind (R.bind (aX 2 v10) fun GO=>R.bind (R.ok (D.int 128)) fun FZ=>R.of (vU GO FZ)) fun Ay=>R.bind (R.ok (D.int 3)) fun FY=>R.of (nT Ay FY)) fun FW=>R.bind (R.ok (D.int 0)) fun FT=>R.bind (R.of (xK FW FT)) fH)else R.ok false)else R.ok false) fun lP=>if lP=true then(R.bind (R.bind (R.bind (R.bind (R.ok (D.str "out")) fun IM=>R.bind (R.bind (bG 4 v10) fun xS=>R.bind (R.ok []) fun DI=>R.ok (xS::DI)) fun Bu=>R.ok (IM::Bu)) fit) fun ds=>R.ok (D.tup ds)) fun GQ=>R.ok (Out.rt GQ))else(R.ok (Out.nx v10))) fun kL=>
 (aV (R.bind (R.bind (R.bind (R.bind (R.bind (aX 5 kL) fun ym=>R.bind (R.ok []) fun DH=>R.ok (ym::DH)) fun F4=>R.of (my F4)) fun xx=>R.bind (R.ok (D.int 1)) fun F3=>R.bind (R.of (xK xx F3)) fH) fun F0=>if F0=true then(R.bind (R.bind (R.bind (R.bind (R.bind (R.bind (R.bind (R.bind (gD 5 kL) fun Iz=>R.bind (R.ok (D.int 0)) fun Iu=>p8 Iz Iu) fun IA=>R.bind (R.ok []) fun Ir=>R.ok (IA::Ir)) fun Cb=>R.of (y4 Cb)) fun yn=>R.bind (R.bind (R.bind (R.bind (gD 5 kL) fun II=>R.bind (R.ok (D.int 1)) fun IC=>p8 II IC) fun IJ=>R.bind (R.ok []) fun IK=>R.ok (IJ::IK)) fun Iw=>R.of (y4 Iw)) fun IB=>R.of (jD yn IB)) fun Ca=>R.bind (R.ok []) fun Im=>R.ok (Ca::Im)) fun Il=>R.of (y4 Il)) fun Mz=>R.bind (R.ok (D.int 1)) fun Io=>R.bind (R.of (xK Mz Io)) fH) fun Ip=>if Ip=true then(R.bind (R.bind (R.bind (aX 2 kL) fun Mx=>R.bind (R.ok (D.int 128)) fun My=>R.of (vU Mx My)) fun IF=>R.bind (R.ok (D.int 5)) fun ID=>R.of (nT IF ID)) fun IG=>R.bind (R.ok (D.int 0)) fun IE=>R.bind (R.of (xK IG IE)) fH)else R.ok false)else R.ok false) fun F5=>if F5=true then(R.bind (R.bind (R.bind (R.bind (R.ok (D.str "far")) fun MC=>R.bind (R.bind (bG 4 kL) fun MA=>R.bind (R.ok []) fun RV=>R.ok (MA::RV)) fun IL=>R.ok (MC::IL)) fit) fun ds=>R.ok (D.tup ds)) fun MB=>R.ok (Out.rt MB))else(R.ok (Out.nx kL))) fun xR=>
 (aV (R.bind (R.bind (R.bind (R.bind (R.bind (aX 5 xR) fun RH=>R.bind (R.ok []) fun RE=>R.ok (RH::RE)) fun RD=>R.of (my RD)) fun Wa=>R.bind (R.ok (D.int 2)) fun Bv=>R.bind (R.of (xK Wa Bv)) fH) fun V9=>if V9=true then(R.bind (R.bind (R.bind (gD 5 xR) fun RJ=>R.bind (R.ok (D.int 0)) fun RK=>p8 RJ RK) fun RL=>R.bind (R.bind (gD 5 xR) fun RQ=>R.bind (R.ok (D.int 2)) fun RT=>p8 RQ RT) fun RU=>R.bind (R.of (uk RL RU)) fH) fun RG=>if RG=true then(R.bind (R.bind (R.bind (R.bind (gD 5 xR) fun Ck=>R.bind (R.ok (D.int 0)) fun Cm=>p8 Ck Cm) fun Cf=>R.bind (R.bind (gD 5 xR) fun Ci=>R.bind (R.ok (D.int 1)) fun Cj=>p8 Ci Cj) fun Cg=>R.of (BW Cf Cg)) fun RO=>R.bind (R.ok (D.int 0)) fun RN=>R.bind (R.of (xK RO RN)) fH) fun RM=>if RM=true then(R.bind (R.bind (R.bind (R.bind (R.bind (gD 5 xR) fun Jb=>R.bind (R.ok (D.int 0)) fun Jc=>p8 Jb Jc) fun I9=>R.bind (R.bind (gD 5 xR) fun Jd=>R.bind (R.ok (D.int 1)) fun Je=>p8 Jd Je) fun Ja=>R.of (jD I9 Ja)) fun I8=>R.bind (R.ok []) fun Cn=>R.ok (I8::Cn)) fun I0=>R.of (y4 I0)) fun IY=>R.bind (R.ok (D.int 1)) fun IZ=>R.bind (R.of (uk IY IZ)) fH)else R.ok false)else R.ok false)else R.ok false) fun RB=>if RB=true then(R.bind (R.bind (R.bind (R.bind (R.ok (D.str "near")) fun RW=>R.bind (R.bind (bG 4 xR) fun RX=>R.bind (R.ok []) fun RY=>R.ok (RX::RY)) fun RZ=>R.ok (RW::RZ)) fit) fun ds=>R.ok (D.tup ds)) fun R0=>R.ok (Out.rt R0))else(R.ok (Out.nx xR))) fun DN=>
 (aV (R.bind (R.bind (R.bind (aX 1 DN) fun R3=>R.bind (R.ok (D.int 1)) fun R4=>R.bind (R.of (xK R3 R4)) fH) fun R5=>if R5=true then(R.bind (R.bind (R.bind (R.bind (aX 0 DN) fun R6=>R.bind (R.ok []) fun R7=>R.ok (R6::R7)) fun R8=>R.of (my R8)) fun R9=>R.bind (R.ok (D.int 2)) fun Sd=>R.of (eu R9 Sd)) fun Se=>R.bind (aX 3 DN) fun Sf=>R.bind (R.of (Vj Se Sf)) fH)else R.ok false) fun Sg=>if Sg=true then(R.bind (R.bind (R.bind (R.bind (R.ok (D.str "in")) fun Sh=>R.bind (R.bind (bG 4 DN) fun Si=>R.bind (R.bind (R.bind (R.bind (R.bind (aX 2 DN) fun Sn=>R.bind (R.ok (D.int 1024)) fun So=>R.of (vU Sn So)) fun Sq=>R.bind (R.bind (aX 1 DN) fun Ss=>R.bind (R.ok []) fun Su=>R.ok (Ss::Su)) fun Sv=>R.ok (Sq::Sv)) bh) fun Sw=>R.bind (R.ok []) fun Sx=>R.ok (Sw::Sx)) fun Sy=>R.ok (Si::Sy)) fun Sz=>R.ok (Sh::Sz)) fit) fun ds=>R.ok (D.tup ds)) fun SA=>R.ok (Out.rt SA))else(R.ok (Out.nx DN))) fun zk=>
 (R.bind (R.ok D.non) fun SD=>R.ok (Out.rt SD))))))))
def ja:=mD 4 6 ur
def qe(env:DE):R Out:=
 (R.bind (R.bind (R.bind (R.bind (R.bind (R.ok (D.int 1)) fun v4=>R.of (qP v4)) fun v2=>R.bind (R.bind (R.bind (R.bind (R.bind (bG 0 env) fun v8=>R.bind (R.ok []) fun v9=>R.ok (v8::v9)) rA) fun v7=>R.ok (D.lst v7)) fun v5=>R.bind (R.ok []) fun v6=>R.ok (v5::v6)) fun v3=>R.ok (v2::v3)) fit) fun ds=>R.ok (D.tup ds)) fun v1=>R.ok (Out.rt v1))
def iR:=mD 1 1 qe
def dA(d:D)(env:DE):R Out:=
 R.bind ((bN 3) d env) fun v9=>
  (aV (R.bind (gb 1 v9) fun v11=>R.bind (R.bind (R.bind (bG 2 v9) fun gz=>R.bind (R.bind (R.bind (bG 3 v9) fun kL=>R.bind (R.ok (D.int 1)) fun lP=>sU kL lP) fun lM=>R.bind (R.ok []) fun lN=>R.ok (lM::lN)) fun lu=>R.ok (gz::lu)) fK) fun lL=>R.bind (R.of (Dz lL)) fun kj=>Ik 1 v9 v11 kj) fun v10=>
 (R.bind (bG 2 v10) fun v20=>R.bind (R.bind (bG 3 v10) fun jl=>R.bind (R.ok (D.int 0)) fun q8=>sU jl q8) fun rf=>FI (fun i j=>i+j) 2 v10 v20 rf))
def jb(env:DE):R Out:=
 (aV (R.bind (R.ok ([]:List (List Int))) fun v2=>(R.bind (fit v2) fun y=>R.ok (Out.nx (List.set env 1 (Sl.deep (Ct.ls y)))))) fun v1=>
 (aV (R.bind (R.ok (D.int 0)) fun v4=>R.ok (Out.nx (List.set v1 2 (Sl.val v4)))) fun v3=>
 (aV (R.bind (R.bind (bG 0 v3) fun q9=>R.bind (vR q9) fun xs=>R.ok (reverse xs)) fun v6=>gG dA v6 v3) fun v5=>
 (aV (R.bind (gb 1 v5) fun uH=>R.ok (Out.nx (List.set v5 1 (Sl.deep (Ct.ls (reverse uH)))))) fun tm=>
 (R.bind (gb 1 tm) fun wm=>R.ok (Out.Dc wm))))))
def bf:=mT 1 4 jb
def gQ(d:D)(env:DE):R Out:=
 R.bind ((bT 2 (jx (bN 4) (jx (bN 5) xQ))) d env) fun v5=>
  (aV (R.bind (R.bind (R.bind (bG 0 v5) fun v8=>R.bind (R.bind (bG 1 v5) fun v10=>R.bind (R.bind (R.bind (R.bind (aX 5 v5) fun gz=>R.bind (R.bind (aX 4 v5) fun lM=>R.bind (R.bind (R.ok (D.int 69621)) fun kL=>R.bind (R.ok []) fun lP=>R.ok (kL::lP)) fun lN=>R.ok (lM::lN)) fun lu=>R.ok (gz::lu)) cy) fun lL=>R.bind (R.bind (bG 3 v5) fun v20=>R.bind (R.ok []) fun rf=>R.ok (v20::rf)) fun kj=>R.ok (lL::kj)) fun v11=>R.ok (v10::v11)) fun v9=>R.ok (v8::v9)) ja) fun v7=>R.ok (Out.nx (List.set v5 6 (Sl.val v7)))) fun v6=>
 (R.bind (R.bind (aX 6 v6) fun q8=>R.bind (R.ok D.non) fun q9=>R.bind (R.of (um q8 q9)) fH) fun jl=>if jl=true then(R.bind (R.bind (R.bind (R.bind (bG 0 v6) fun wm=>R.bind (R.bind (bG 6 v6) fun zg=>R.bind (R.ok []) fun v30=>R.ok (zg::v30)) fun zf=>R.ok (wm::zf)) i9) fun uH=>R.ok (D.lst uH)) fun tm=>R.ok (Out.nx (List.set v6 0 (Sl.val tm))))else(R.ok (Out.nx v6))))
def ou(env:DE):R Out:=
 (aV (R.bind (R.bind (bG 2 env) fun B8=>R.bind (vR B8) fun xs=>R.ok (dO xs)) fun v2=>gG gQ v2 env) fun v1=>
 (R.bind (bG 0 v1) fun B9=>R.ok (Out.rt B9)))
def fg:=mD 4 7 ou
def yr(env:DE):R Out:=
 (aV (R.bind (R.bind (R.bind (gD 1 env) fun v5=>R.bind (R.ok (D.int 0)) fun v6=>p8 v5 v6) fun v3=>R.bind (R.ok (D.int 0)) fun v4=>R.bind (R.of (xK v3 v4)) fH) fun v2=>if v2=true then(R.bind (R.bind (R.bind (R.bind (R.ok (D.int 0)) fun v8=>R.bind (R.bind (R.bind (R.bind (R.bind (bG 0 env) fun kj=>R.bind (R.bind (bG 1 env) fun lu=>R.bind (R.ok []) fun lM=>R.ok (lu::lM)) fun gz=>R.ok (kj::gz)) lU) fun lL=>R.ok (D.lst lL)) fun v10=>R.bind (R.ok []) fun v11=>R.ok (v10::v11)) fun v9=>R.ok (v8::v9)) fit) fun ds=>R.ok (D.tup ds)) fun v7=>R.ok (Out.rt v7))else(R.ok (Out.nx env))) fun v1=>
 (R.bind (R.bind (R.bind (R.bind (R.bind (R.bind (bG 0 v1) fun rf=>R.bind (R.bind (R.bind (R.bind (R.bind (bG 1 v1) fun uH=>R.bind (R.ok []) fun wm=>R.ok (uH::wm)) og) fun tm=>R.ok (D.lst tm)) fun q8=>R.bind (R.ok []) fun q9=>R.ok (q8::q9)) fun jl=>R.ok (rf::jl)) lU) fun v20=>R.ok (D.lst v20)) fun kL=>R.bind (R.ok []) fun lP=>R.ok (kL::lP)) iR) fun lN=>R.ok (Out.rt lN)))
def lV:=mD 2 2 yr
def oy(env:DE):R Bool:=
 R.ok true
def jS(env:DE):R D:=
 (R.bind (R.bind (aX 1 env) fun zg=>R.bind (R.bind (aX 0 env) fun B8=>R.bind (R.bind (R.ok (D.int 16807)) fun FU=>R.bind (R.ok []) fun FW=>R.ok (FU::FW)) fun B9=>R.ok (B8::B9)) fun v30=>R.ok (zg::v30)) cy)
def uu(env:DE):R Out:=
 (aV (R.bind (R.bind (R.bind (R.bind (R.bind (R.bind (gD 0 env) fun v7=>R.bind (R.ok none) fun v8=>R.bind (R.bind (R.ok (D.int 63)) zP) fun v9=>R.ok (cut v7 v8 v9)) fun v6=>R.ok (D.lst v6)) fun v4=>R.bind (R.bind (bG 1 env) fun v10=>R.bind (R.bind (R.ok (D.int 189)) fun lL=>R.bind (R.ok []) fun kj=>R.ok (lL::kj)) fun v11=>R.ok (v10::v11)) fun v5=>R.ok (v4::v5)) gO) fun v3=>R.ok (D.lst v3)) fun v2=>R.ok (Out.nx (List.set env 3 (Sl.val v2)))) fun v1=>
 (aV (R.bind (R.bind (R.bind (R.bind (aX 3 v1) fun lP=>R.bind (R.ok []) fun v20=>R.ok (lP::v20)) fun kL=>R.of (my kL)) fun lM=>R.bind (aX 2 v1) fun lN=>R.bind (R.of (Vj lM lN)) fH) fun lu=>if lu=true then(R.bind (bG 3 v1) fun rf=>R.ok (Out.rt rf))else(R.ok (Out.nx v1))) fun gz=>
 (aV (R.bind (R.bind (R.bind (R.bind (bG 0 gz) fun FT=>R.bind (vR FT) fun xs=>R.ok (dO xs)) fun tm=>R.bind (jk gz []) fun uH=>R.bind (R.ne (dN (bT 2 (jx (bN 0) (jx (bN 1) xQ))) oy jS (lI 2 uH) tm)) fit) fun q9=>R.of (yk q9)) fun q8=>R.ok (Out.nx (List.set gz 4 (Sl.val q8)))) fun jl=>
 (aV (R.bind (R.bind (aX 4 jl) fun GO=>R.bind (R.bind (R.bind (R.bind (R.bind (aX 3 jl) fun xR=>R.bind (R.ok []) fun F5=>R.ok (xR::F5)) fun DI=>R.of (my DI)) fun Bu=>R.bind (aX 2 jl) fun xS=>R.of (jD Bu xS)) fun GQ=>R.bind (R.ok (D.int 1)) fun IM=>R.of (eu GQ IM)) fun FZ=>R.of (nT GO FZ)) fun FY=>R.ok (Out.nx (List.set jl 5 (Sl.val FY)))) fun Ay=>
 (R.bind (R.bind (R.bind (gD 3 Ay) fun F3=>R.bind (R.bind (aX 5 Ay) zP) fun F4=>R.bind (R.bind (R.bind (aX 5 Ay) fun DH=>R.bind (aX 2 Ay) fun Ip=>R.of (eu DH Ip)) zP) fun ym=>R.ok (cut F3 F4 ym)) fun xx=>R.ok (D.lst xx)) fun F0=>R.ok (Out.rt F0))))))
def jc:=mD 3 6 uu
def gf(env:DE):R Bool:=
 R.ok true
def cB(env:DE):R D:=
 (R.bind (R.bind (bG 1 env) fun v7=>R.bind (R.bind (bG 0 env) fun v9=>R.bind (R.ok []) fun v10=>R.ok (v9::v10)) fun v8=>R.ok (v7::v8)) lV)
def nq(env:DE):R Out:=
 (R.bind (R.bind (R.bind (R.bind (R.ne (R.bind (R.bind (aX 0 env) fun lL=>R.bind (R.bind (R.bind (R.bind (R.bind (bG 1 env) fun lN=>R.bind (R.ok []) fun kL=>R.ok (lN::kL)) lR) fun lM=>R.ok (D.lst lM)) fun gz=>R.bind (R.ok []) fun lu=>R.ok (gz::lu)) fun kj=>R.ok (lL::kj)) AH)) fun v11=>R.ok (map (fun ns=>D.lst (map D.int ns)) v11)) fun v3=>R.bind (jk env [0]) fun v4=>R.bind (R.ne (dN (bN 0) gf cB (lI 1 v4) v3)) fit) fun v2=>R.ok (D.lst v2)) fun v1=>R.ok (Out.rt v1))
def dQ:=mD 2 2 nq
section
variable{X:Cx}
theorem Jf{A:Around}{E:Value->Shared->Prop}{s:Shared}{d:Addr}{xs:List (List Key×Addr×Value)}{Q:Value->Shared->Prop}(hd:(d==sysModules)=false)
  (m:Heap.DictOfH (tupleKind (di X.prog X.w)) s.heap d xs)(z:xs.length<=sizeLine)(q:Q (.int xs.length (s.toks+1)) {s with toks:=s.toks+1+1}):wpAny (model X.prog X.w) A (call (.builtin "len") [.ref d]) Q E s:=by
 have z':xs.length<=16777216:=z
 have inner:∀A,wpAny (model X.prog X.w) A (call (.builtin "dict.__len__") [.ref d]) (fun r s'=>r=.int xs.length s.toks/\s'={s with toks:=s.toks+1}) E s:=fun A=>by
  refine call_meetsIn (S:=fun _ R s'=>s'=s/\R (.ok (.ret (.int xs.length s.toks))) {s with toks:=s.toks+1}) slot_dict_len m.typeIs PySem.F.entry_dict_len (PySem.F.args_dict_len_1 _) (.of_wp fun A R s' h=>?_) ⟨rfl,rfl,rfl⟩
  obtain⟨rfl,h⟩:=h
  obtain⟨o,es,ep,h1,h2,h3,h4,_⟩:=m
  show wpAny _ _ (dictSize d>>=fun n=>_) _ _ _
  unfold dictSize
  refine wpAny_bind (wpAny_bind (wpAny_dictEntries h1 h3 (wpAny_pure (wpAny_bind (wpAny_pendingCount_other hd (wpAny_ret_mkInt ?_))))))
  rw[size_of_entries h4]
  exact h
 refine Calls.call_function_entry kind_len plain_len entry_len (args_len1 _) ?_
 unfold Builtin.«len»
 refine wpAny_bind (wpAny_pure (wpAny_bind (wpAny_callSpecial?_slot (name:=Str.ofString "__len__") m.typeIs slot_dict_len (cj (inner _) fun r s' h=>?_))))
 obtain⟨rfl,rfl⟩:=h
 refine wpAny_bind (wpAny_holding (wpAny_pure (wpAny_bind (wpAny_letGo ?_))))
 show wpAny _ _ (if((xs.length:Nat):Int)<0 then _ else _) _ _ _
 rw[if_neg (by omega)]
 show wpAny _ _ (if 2^63<=((xs.length:Nat):Int)then _ else _) _ _ _
 rw[if_neg (by omega)]
 exact wpAny_bind (wpAny_mkInt (wpAny_pure ⟨_,rfl,q⟩))
theorem F6:p6 X (.builtin "len") (fun xs H Q=>∃a kvs,xs=[V.ref a]/\H a=some (.dT kvs)/\Q (.int kvs.length) H):=by
 intro pins s σ H xs us Q I r h
 obtain⟨a,kvs,rfl,ha,q⟩:=h
 obtain⟨u,rfl,ru⟩:=vals1 r
 cases ru
 obtain⟨z,hd,ys,rel,dd⟩:=vP I.hok (.inl ha)
 have e:kvs.length=ys.length:=Paired.length rel
 exact Jf hd dd (by omega) ⟨.int kvs.length,H,I.tok _,⟨_,by rw[e]⟩,q⟩
theorem MD:Xj X "int.bit_length" (fun x vs H Q=>∃i,x=.int i/\vs=[]/\Q (.int (Builtin.Int.intBits i)) H):=by
 intro pins s σ H x xs v us Q I r rs h
 obtain⟨i,rfl,rfl,q⟩:=h
 obtain⟨t,rfl⟩:=r
 have e:=rs.zero
 subst e
 exact call_int_bit_length ⟨.int _,H,I.tok _,⟨_,rfl⟩,q⟩
end
theorem R.oA {α:Type}(a:α):(R.ok a).ne=.ok a:=rfl
theorem qy{b:D->DE->R DE}{ct:DE->R Bool}{fe:DE->R D}{e₀:DE}(g:Int->Int)(w:List Int)(h:∀k∈w,∃e,b (.int k) e₀=.ok e/\ct e=.ok true/\fe e=.ok (.int (g k))):dN b ct fe e₀ (aK w)=.ok (aK (w.map g)):=by
 rw[ph (fun d=>match d with
  |.int k=>.int (g k)
  |_=>.non) _ fun x hx=>by
   obtain⟨k,hk,rfl⟩:=mem_map.mp hx
   exact h k hk]
 unfold aK
 rw[map_map,map_map]
 rfl
def upTo(n:Nat):List Int:=(range n).map fun i=>((i:Nat):Int)
theorem ak(n:Nat):(upTo n).length=n:=by simp[upTo]
theorem oB(n j:Nat)(h:j<n):(upTo n)[j]?=some (j:Int):=by simp[upTo,h]
theorem mem_upTo{n:Nat}{x:Int}:x∈upTo n↔0<=x/\x<n:=by
 simp -implicitDefEqProofs only [upTo,mem_map,mem_range]
 constructor
 ·rintro⟨i,h,rfl⟩;omega
 ·rintro⟨h1,h2⟩;exact⟨x.toNat,by omega,by omega⟩
theorem yt(n:Nat):pX 0 n=aK (upTo n):=by
 rw[vg];congr 1;simp[upTo]
theorem AI(n:Nat):(upTo n).Pairwise (·<=·):=by
 unfold upTo
 rw[pairwise_map]
 exact List.pairwise_lt_range.imp fun h=>by omega
theorem wC(n:Nat):(upTo n).Nodup:=by
 unfold upTo
 unfold Nodup
 rw[pairwise_map]
 exact List.pairwise_lt_range.imp fun h=>by omega
def bB(n:Nat)(r:List Int):Prop:=r.Perm (upTo n)
theorem bB.len {n:Nat}{r:List Int}(h:bB n r):r.length=n:=by rw[h.length_eq,ak]
theorem bB.nd {n:Nat}{r:List Int}(h:bB n r):r.Nodup:=h.nodup_iff.mpr (wC n)
theorem bB.mem {n:Nat}{r:List Int}(h:bB n r){x:Int}:x∈r↔0<=x/\x<n:=h.mem_iff.trans mem_upTo
theorem bB.get {n:Nat}{r:List Int}(h:bB n r){j:Nat}{x:Int}(e:r[j]?=some x):0<=x/\x<n:=h.mem.mp (mem_of_getElem? e)
theorem Jg{n:Nat}{r:List Int}(h:bB n r):sortI r=upTo n:=(Au h.symm (AI n)).symm
def aa(ns:List Int)(k:Nat):Int:=(ns[k]?).getD 0
theorem cP{l:List Int}{j:Nat}(h:j<l.length):l[j]?=some (aa l j):=by
 unfold aa
 rw[getElem?_eq_getElem h]
 rfl
theorem aR{a b:List Int}(hl:a.length=b.length)(h:∀j,j<a.length->aa a j=aa b j):a=b:=by
 refine List.ext_getElem? fun j=>?_
 by_cases hj:j<a.length
 ·rw[cP hj,cP (hl▸hj),h j hj]
 ·rw[getElem?_eq_none (by omega),getElem?_eq_none (by omega)]
theorem ao{n j:Nat}(h:j<n):aa (upTo n) j=j:=by unfold aa;rw[oB n j h];rfl
theorem wD{l:List Int}{j i:Nat}{x:Int}(h:j<l.length):aa (l.set i x) j=if i=j then x else aa l j:=by
 unfold aa
 rw[List.getElem?_set]
 split
 ·subst_vars
  rw[if_pos h]
  rfl
 ·rfl
def cK:List Int->Nat->List Int
 |x::y::l,0=>y::x::l
 |x::l,a+1=>x::cK l a
 |l,_=>l
theorem qg(x:Int)(l:List Int)(a:Nat):cK (x::l) (a+1)=x::cK l a:=by cases l<;>rfl
theorem bE:∀(l:List Int)(a:Nat),(cK l a).length=l.length
 |[],a=>by cases a<;>rfl
 |[x],0=>rfl
 |x::y::l,0=>rfl
 |x::l,a+1=>by rw[qg,length_cons,length_cons,bE l a]
theorem bx:∀(l:List Int)(a:Nat),a+1<l.length->∀j,aa (cK l a) j=if j=a then aa l (a+1)else if j=a+1 then aa l a else aa l j
 |[],a,h,j=>by simp at h
 |[x],a,h,j=>by simp at h
 |x::y::l,0,h,j=>by
  match j with
  |0=>rfl
  |1=>rfl
  |j+2=>rw[if_neg (by omega),if_neg (by omega)];rfl
 |x::y::l,a+1,h,j=>by
  rw[qg]
  match j with
  |0=>rw[if_neg (by omega),if_neg (by omega)];rfl
  |j+1=>
   show aa (cK (y::l) a) j=if j+1=a+1 then aa (y::l) (a+1)else if j+1=a+1+1 then aa (y::l) a else aa (y::l) j
   rw[bx (y::l) a (by simpa using h) j]
   repeat' split
   all_goals first|rfl|omega
theorem DQ:∀(l:List Int)(a:Nat),a+1<l.length->l.take a++[aa l (a+1),aa l a]++l.drop (a+2)=cK l a
 |[],a,h=>by simp at h
 |[x],a,h=>by simp at h
 |x::y::l,0,h=>rfl
 |x::y::l,a+1,h=>by
  rw[qg,<-DQ (y::l) a (by simpa using h)]
  rfl
def sg(a:Nat)(x:Int):Int:=if x=a then(a:Int)+1 else if x=(a:Int)+1 then a else x
def qz(r:List Int)(a:Nat):List Int:=r.map (sg a)
theorem vj(r:List Int)(a:Nat):(qz r a).length=r.length:=length_map _
theorem bg{r:List Int}{a p:Nat}(h:p<r.length):aa (qz r a) p=sg a (aa r p):=by
 have:=cP h
 unfold qz
 conv=>lhs;unfold aa
 rw[getElem?_map,this]
 rfl
structure Iv(n:Nat)(r s:List Int):Prop where
 lr:r.length=n
 ls:s.length=n
 rs:∀p,p<n->0<=aa r p/\aa r p<n/\aa s (aa r p).toNat=p
 sr:∀v,v<n->0<=aa s v/\aa s v<n/\aa r (aa s v).toNat=v
theorem Iv.symm {n:Nat}{r s:List Int}(h:Iv n r s):Iv n s r:=⟨h.ls,h.lr,h.sr,h.rs⟩
theorem Iv.step {n:Nat}{r s:List Int}(h:Iv n r s){a:Nat}(ha:a+1<n):Iv n (qz r a) (cK s a):=by
 refine⟨by rw[vj,h.lr],by rw[bE,h.ls],fun p hp=>?_,fun v hv=>?_⟩
 ·obtain⟨h1,h2,h3⟩:=h.rs p hp
  rw[bg (h.lr.symm▸hp),bx _ _ (h.ls.symm▸ha)]
  generalize aa r p=v at h1 h2 h3
  unfold sg
  by_cases e1:v=a
  ·rw[if_pos e1]
   refine⟨by omega,by omega,?_⟩
   rw[if_neg (by omega),if_pos (by omega),<-h3,show v.toNat=a by omega]
  ·rw[if_neg e1]
   by_cases e2:v=(a:Int)+1
   ·rw[if_pos e2]
    refine⟨by omega,by omega,?_⟩
    rw[if_pos (by omega),<-h3,show v.toNat=a+1 by omega]
   ·rw[if_neg e2]
    refine⟨h1,h2,?_⟩
    rw[if_neg (by omega),if_neg (by omega),h3]
 ·rw[bx _ _ (h.ls.symm▸ha)]
  by_cases e1:v=a
  ·obtain⟨h1,h2,h3⟩:=h.sr (a+1) ha
   rw[if_pos e1]
   refine⟨h1,h2,?_⟩
   rw[bg (by rw[h.lr];omega),h3]
   unfold sg
   rw[if_neg (by omega),if_pos (by omega),e1]
  ·rw[if_neg e1]
   by_cases e2:v=a+1
   ·obtain⟨h1,h2,h3⟩:=h.sr a (by omega)
    rw[if_pos e2]
    refine⟨h1,h2,?_⟩
    rw[bg (by rw[h.lr];omega),h3]
    unfold sg
    rw[if_pos rfl,e2]
    omega
   ·obtain⟨h1,h2,h3⟩:=h.sr v hv
    rw[if_neg e2]
    refine⟨h1,h2,?_⟩
    rw[bg (by rw[h.lr];omega),h3]
    unfold sg
    rw[if_neg (by omega),if_neg (by omega)]
theorem Iv.GR {n:Nat}{r s:List Int}(h:Iv n r s){v w:Nat}(hv:v<n)(hw:w<n)(e:aa s v=aa s w):v=w:=by
 have h1:=(h.sr v hv).2.2
 have h2:=(h.sr w hw).2.2
 rw[e]at h1
 omega
theorem SE{n:Nat}{r:List Int}(h:bB n r):∃s,Iv n r s:=by
 have hc:∀v,v<n->aa ((upTo n).map fun v=>((r.idxOf v:Nat):Int)) v=(r.idxOf ((v:Nat):Int):Nat):=fun v hv=>by
  unfold aa
  rw[getElem?_map,oB n v hv]
  rfl
 refine⟨(upTo n).map fun v=>((r.idxOf v:Nat):Int),h.len,by rw[length_map,ak],fun p hp=>?_,fun v hv=>?_⟩
 ·have T3:p<r.length:=by rw[h.len];exact hp
  have hg:=h.get (cP T3)
  refine⟨hg.1,hg.2,?_⟩
  rw[hc _ (by omega),show(((aa r p).toNat:Nat):Int)=aa r p by omega]
  have e:aa r p=r[p]:=by
   have:=cP T3
   rw[getElem?_eq_getElem T3]at this
   exact(Option.some.inj this).symm
  rw[e,h.nd.idxOf_getElem p T3]
 ·have hm:(v:Int)∈r:=h.mem.mpr (by omega)
  have hl:=List.idxOf_lt_length_of_mem hm
  rw[hc v hv]
  have Ib:=hl
  rw[h.len]at Ib
  refine⟨by omega,by omega,?_⟩
  rw[toNat_natCast]
  have:=cP hl
  rw[getElem?_eq_getElem hl,getElem_idxOf hl]at this
  exact(Option.some.inj this).symm
theorem Iv.idx {n:Nat}{r s:List Int}(h:Iv n r s){v:Nat}(hv:v<n):(v:Int)∈r/\((r.idxOf (v:Int):Nat):Int)=aa s v:=by
 obtain⟨h1,h2,h3⟩:=h.sr v hv
 have hm:(v:Int)∈r:=by
  have:=cP (l:=r) (j:=(aa s v).toNat) (by rw[h.lr];omega)
  rw[h3]at this
  exact mem_of_getElem? this
 refine⟨hm,?_⟩
 have hl:=List.idxOf_lt_length_of_mem hm
 have:=cP hl
 rw[getElem?_eq_getElem hl,getElem_idxOf hl]at this
 have e:=Option.some.inj this
 have Ib:=hl
 rw[h.lr]at Ib
 have h4:=(h.rs _ Ib).2.2
 rw[<-e,toNat_natCast]at h4
 exact h4.symm
def zS(l:List Int):List Int:=((range (l.length-1)).map fun i=>1+((i:Nat):Int)).filter fun k=>decide (aa l k.toNat<aa l (k-1).toNat)
theorem rB{l:List Int}{k:Int}:k∈zS l↔∃a:Nat,k=(a:Int)+1/\a+1<l.length/\aa l (a+1)<aa l a:=by
 unfold zS
 rw[mem_filter,mem_map]
 constructor
 ·rintro⟨⟨i,hi,rfl⟩,h⟩
  rw[mem_range]at hi
  rw[decide_eq_true_eq,show(1+(i:Int)).toNat=i+1 by omega,show(1+(i:Int)-1).toNat=i by omega]at h
  exact⟨i,by omega,by omega,h⟩
 ·rintro⟨a,rfl,h1,h2⟩
  refine⟨⟨a,mem_range.mpr (by omega),by omega⟩,?_⟩
  rw[decide_eq_true_eq,show((a:Int)+1).toNat=a+1 by omega,show((a:Int)+1-1).toNat=a by omega]
  exact h2
theorem ME(l:List Int):(zS l).length<=l.length:=by
 have h:=List.length_filter_le (fun k=>decide (aa l k.toNat<aa l (k-1).toNat)) ((range (l.length-1)).map fun i=>1+((i:Nat):Int))
 unfold zS
 rw[length_map,length_range]at h
 omega
theorem MF{n:Nat}{r s:List Int}(h:Iv n r s)(hd:∀a,a+1<n->¬aa s (a+1)<aa s a):r=upTo n:=by
 have hlt:∀a,a+1<n->aa s a<aa s (a+1):=fun a ha=>by
  have h1:=hd a ha
  have h2:aa s a≠aa s (a+1):=fun z=>by
   have:=h.GR (by omega) ha z
   omega
  omega
 have hge:∀a,a<n->(a:Int)<=aa s a:=fun a=>by
  induction a with
  |zero=>intro ha;exact(h.sr 0 ha).1
  |succ a ih=>
   intro ha
   have h1:=ih (by omega)
   have h2:=hlt a ha
   omega
 have hle:∀d a,a+d+1=n->aa s a<=a:=fun d=>by
  induction d with
  |zero=>
   intro a ha
   have:=(h.sr a (by omega)).2.1
   omega
  |succ d ih=>
   intro a ha
   have h1:=ih (a+1) (by omega)
   have h2:=hlt a (by omega)
   omega
 have hs:∀a,a<n->aa s a=a:=fun a ha=>by
  have h1:=hge a ha
  have h2:=hle (n-1-a) a (by omega)
  omega
 refine aR (by rw[h.lr,ak]) fun p hp=>?_
 rw[h.lr]at hp
 obtain⟨h1,h2,h3⟩:=h.rs p hp
 rw[hs _ (by omega)]at h3
 rw[ao hp]
 omega
structure Od(n:Nat)(o r z:List Int):Prop where
 lo:o.length=n
 lz:z.length=n
 at_:∀p,p<n->aa o (aa r p).toNat=aa z p
 cr:∀p q,p<q->q<n->aa r q<aa r p->aa z q<aa z p
def S(n:Nat)(f:Nat->Nat):Nat:=((range n).map f).sum
theorem SG(f:Nat->Nat):S 0 f=0:=rfl
theorem jo(n:Nat)(f:Nat->Nat):S (n+1) f=S n f+f n:=by
 unfold S
 rw[range_succ,map_append,sum_append]
 simp
theorem DR(n:Nat)(f:Nat->Nat):S (n+1) f=f 0+S n fun i=>f (i+1):=by
 unfold S
 rw[List.range_succ_eq_map,map_cons,sum_cons,map_map]
 rfl
theorem fR{n:Nat}{f g:Nat->Nat}(h:∀i,i<n->f i=g i):S n f=S n g:=by
 induction n with
 |zero=>rfl
 |succ n ih=>rw[jo,jo,ih fun i hi=>h i (by omega),h n (by omega)]
theorem AJ(n:Nat)(f g:Nat->Nat):S n (fun i=>f i+g i)=S n f+S n g:=by
 induction n with
 |zero=>rfl
 |succ n ih=>rw[jo,jo,jo,ih];omega
theorem MG(n c:Nat):S n (fun _=>c)=n*c:=by
 induction n with
 |zero=>rw[Nat.zero_mul];rfl
 |succ n ih=>rw[jo,ih,Nat.succ_mul]
theorem Jh(n m:Nat)(f:Nat->Nat->Nat):S n (fun i=>S m fun j=>f i j)=S m fun j=>S n fun i=>f i j:=by
 induction n with
 |zero=>
  rw[SG,show(fun j=>S 0 fun i=>f i j)=fun _=>0 from rfl,MG,Nat.mul_zero]
 |succ n ih=>
  rw[jo,ih,<-AJ]
  exact fR fun j _=>(jo n fun i=>f i j).symm
theorem SH(n q:Nat)(g:Nat->Nat):S n (fun p=>if p<q then g p else 0)=S (min n q) g:=by
 induction n with
 |zero=>rw[Nat.zero_min];rfl
 |succ n ih=>
  rw[jo,ih]
  by_cases h:n<q
  ·rw[if_pos h,show min n q=n by omega,show min (n+1) q=n+1 by omega,jo]
  ·rw[if_neg h,show min n q=q by omega,show min (n+1) q=q by omega]
   rfl
theorem Ji{n:Nat}{r s:List Int}(h:Iv n r s)(f:Nat->Nat):S n (fun v=>f (aa s v).toNat)=S n f:=by
 unfold S
 have p:((range n).map fun v=>(aa s v).toNat).Perm (range n):=by
  refine(List.perm_ext_iff_of_nodup ?_ List.nodup_range).mpr fun x=>?_
  ·unfold Nodup
   rw[pairwise_map]
   refine Pairwise.imp_of_mem ?_ List.nodup_range
   intro a b ha hb hab e
   rw[mem_range]at ha hb
   have h1:=h.sr a ha
   have h2:=h.sr b hb
   exact hab (h.GR ha hb (by omega))
  ·rw[mem_map]
   constructor
   ·rintro⟨v,hv,rfl⟩
    rw[mem_range]at hv⊢
    have:=h.sr v hv
    omega
   ·intro hx
    rw[mem_range]at hx
    obtain⟨h1,h2,h3⟩:=h.rs x hx
    exact⟨(aa r x).toNat,mem_range.mpr (by omega),by rw[h3,toNat_natCast]⟩
 have:=(p.map f).sum_nat
 rw[map_map]at this
 exact this
def xT(x:Int)(pre:List Int):Nat:=(pre.filter fun s=>decide (x<s)).length
theorem Cp(x y:Int)(pre:List Int):xT x (pre++[y])=xT x pre+if x<y then 1 else 0:=by
 unfold xT
 rw[List.filter_append,length_append]
 congr 1
 rw[List.filter_cons]
 by_cases h:x<y
 ·rw[if_pos (decide_eq_true h),if_pos h];rfl
 ·rw[if_neg (by rw[decide_eq_true_eq];exact h),if_neg h];rfl
theorem MH{x:Int}{a b:List Int}(p:a.Perm b):xT x a=xT x b:=(p.filter _).length_eq
def zT:List Int->List Int->Nat
 |_,[]=>0
 |pre,x::l=>xT x pre+zT (pre++[x]) l
theorem AK:∀(l:List Int){a b:List Int},a.Perm b->zT a l=zT b l
 |[],a,b,p=>rfl
 |x::l,a,b,p=>by
  unfold zT
  rw[MH p,AK l (p.append_right [x])]
theorem vk:∀(l:List Int)(a:Nat)(pre:List Int),a+1<l.length->zT pre (cK l a)+(if aa l (a+1)<aa l a then 1 else 0)=zT pre l+(if aa l a<aa l (a+1)then 1 else 0)
 |[],a,pre,h=>by simp at h
 |[x],a,pre,h=>by simp at h
 |x::y::l,0,pre,h=>by
  show xT y pre+(xT x (pre++[y])+zT (pre++[y]++[x]) l)+(if y<x then 1 else 0)=xT x pre+(xT y (pre++[x])+zT (pre++[x]++[y]) l)+(if x<y then 1 else 0)
  rw[Cp,Cp,AK l (show(pre++[y]++[x]).Perm (pre++[x]++[y])by
   rw[List.append_assoc,List.append_assoc]
   exact Perm.append_left pre (Perm.swap x y []))]
  omega
 |x::y::l,a+1,pre,h=>by
  rw[qg]
  show xT x pre+zT (pre++[x]) (cK (y::l) a)+(if aa (y::l) (a+1)<aa (y::l) a then 1 else 0)=xT x pre+zT (pre++[x]) (y::l)+(if aa (y::l) a<aa (y::l) (a+1)then 1 else 0)
  have:=vk (y::l) a (pre++[x]) (by simpa using h)
  omega
theorem O2:∀(l pre:List Int),zT pre l=S l.length fun j=>xT (aa l j) (pre++l.take j)
 |[],pre=>rfl
 |x::l,pre=>by
  rw[length_cons,DR]
  show xT x pre+zT (pre++[x]) l=_
  rw[O2 l (pre++[x]),show xT (aa (x::l) 0) (pre++(x::l).take 0)=xT x pre by rw[List.take_zero,append_nil];rfl]
  congr 1
  refine fR fun i _=>?_
  show xT (aa l i) (pre++[x]++l.take i)=xT (aa l i) (pre++x::l.take i)
  rw[List.append_assoc]
  rfl
theorem Wb(x:Int)(l:List Int):∀q,q<=l.length->xT x (l.take q)=S q fun p=>if x<aa l p then 1 else 0
 |0,_=>rfl
 |q+1,h=>by
  have hq:q<l.length:=by omega
  have e:l.take (q+1)=l.take q++[aa l q]:=by
   rw[take_succ,cP hq]
   rfl
  rw[e,Cp,Wb x l q (by omega),jo]
def fU(l:List Int):Nat:=zT [] l
theorem yu(l:List Int):fU l=S l.length fun q=>S l.length fun p=>if p<q then(if aa l q<aa l p then 1 else 0)else 0:=by
 unfold fU
 rw[O2]
 refine fR fun q hq=>?_
 rw[nil_append,Wb _ _ q (by omega),SH,show min l.length q=q by omega]
theorem wF{n:Nat}{r s:List Int}(h:Iv n r s):fU r=fU s:=by
 rw[yu,yu,h.lr,h.ls,<-Ji h (fun q=>S n fun p=>if p<q then(if aa r q<aa r p then 1 else 0)else 0),Jh n n fun q p=>if p<q then(if aa s q<aa s p then 1 else 0)else 0]
 refine fR fun w hw=>?_
 rw[<-Ji h (fun p=>if p<(aa s w).toNat then(if aa r (aa s w).toNat<aa r p then 1 else 0)else 0)]
 refine fR fun v hv=>?_
 obtain⟨h1,h2,h3⟩:=h.sr w hw
 obtain⟨g1,g2,g3⟩:=h.sr v hv
 rw[h3,g3]
 repeat' split
 all_goals first|rfl|omega
theorem fz{l:List Int}{i:Int}(h:0<=i)(h2:i<l.length):ig (aK l) i=some (.int (aa l i.toNat)):=by
 rw[qW,vh h,cP (by omega)]
 rfl
theorem qA{b:D->DE->R DE}{ct:DE->R Bool}{fe:DE->R D}{e₀:DE}(P:Int->Bool):∀(w:List Int),(∀k∈w,∃e,b (.int k) e₀=.ok e/\ct e=.ok (P k)/\fe e=.ok (.int k))->dN b ct fe e₀ (aK w)=.ok (aK (w.filter P))
 |[],_=>rfl
 |k::w,h=>by
  obtain⟨e,h1,h2,h3⟩:=h k (by simp)
  have ih:=qA P w fun x hx=>h x (by simp[hx])
  rw[<-qX]
  unfold dN
  rw[h1,R.bV,h2,R.bV,List.filter_cons]
  by_cases hp:P k=true
  ·rw[if_pos hp,if_pos hp,h3,R.bV,ih]
   rfl
  ·rw[if_neg hp,if_neg hp,ih]
theorem MI(n:Nat)(h:n<=7):FE [.int 1,.int n]=.ok (aK ((range (n-1)).map fun i=>1+((i:Nat):Int))):=by
 rw[HW 1 n (by omega),show((n:Int)-1).toNat=n-1 by omega,vg]
theorem MJ{n:Nat}{k:Int}(h:k∈(range (n-1)).map fun i=>1+((i:Nat):Int)):∃a:Nat,k=(a:Int)+1/\a+1<n:=by
 obtain⟨i,hi,rfl⟩:=mem_map.mp h
 rw[mem_range]at hi
 exact⟨i,by omega,by omega⟩
theorem AL{n:Nat}{r s:List Int}(h:Iv n r s){v:Nat}(hv:v<n):nZ (aK r) (.int v)=.ok (.int (aa s v)):=by
 unfold nZ
 rw[wc]
 obtain⟨h1,h2⟩:=h.idx hv
 show(if(v:Int)∈r then R.ok (D.int (r.idxOf (v:Int):Nat))else R.bad)=_
 rw[if_pos h1,h2]
theorem AM:∀n:Nat,(replicate n [D.int 0]).flatten=aK (replicate n 0)
 |0=>rfl
 |n+1=>by
  rw[replicate_succ,flatten_cons,AM n]
  rfl
theorem pC{n:Nat}{r s:List Int}(h:Iv n r s)(hn:n<=7):b9 [.lst (aK r)]=.ok (aK s):=by
 unfold b9 uo
 simp -implicitDefEqProofs only [mS,mD,mF,gm,aP,reduceAdd,reduceSub,reduceEqDiff,reduceIte,ah,aj,aG,aH,aI,aJ,bc,h.lr]
 rw[Rb _ _ ⟨by omega,by omega,big (by rw[toNat_natCast,length_cons,length_nil];omega)⟩,toNat_natCast]
 have e0:=AM n
 rw[e0]
 simp -implicitDefEqProofs only [reduceIte,ah,aj,aG,aH,aI,aJ]
 obtain⟨t,e,hj⟩:=qu (S:=List Int×Sl×Sl) (b:=jR) (fun i t=>t.1.length=n/\∀p,p<i->p<n->aa t.1 (aa r p).toNat=p) (fun t=>[.val (.lst (aK r)),.own (aK t.1),t.2.1,t.2.2]) (dO (aK r)) 0 (replicate n 0,.no,.no) ⟨length_replicate,fun p hp=>by omega⟩ (by
  rintro j ⟨l,s2,s3⟩ x ⟨hl,hs⟩ hx
  obtain⟨c,hc,rfl⟩:=tj hx
  rw[Nat.zero_add]at hs⊢
  have hjn:j<n:=by
   have:=(List.getElem?_eq_some_iff.mp hc).1
   rwa [h.lr]at this
  rw[cP (by rw[h.lr];exact hjn)]at hc
  have GX:=Option.some.inj hc
  obtain⟨h1,h2,h3⟩:=h.rs j hjn
  unfold jR
  simp -implicitDefEqProofs only [ZC,reduceIte,ah,aj,aG,aH,aI,aJ]
  rw[Aq (by omega) (by rw[bc];have:l.length=n:=hl;omega),Mh,<-GX]
  refine⟨(l.set (aa r j).toNat j,_,_),rfl,by rw[length_set];exact hl,fun p hp hpn=>?_⟩
  obtain⟨p1,p2,p3⟩:=h.rs p hpn
  have XA:l.length=n:=hl
  show aa (l.set (aa r j).toNat j) (aa r p).toNat=p
  rw[wD (by omega)]
  by_cases ep:p=j
  ·subst ep
   rw[if_pos rfl]
  ·rw[if_neg fun z=>by rw[<-z,h3]at p3;omega]
   exact hs p (by omega) hpn)
 obtain⟨l,s2,s3⟩:=t
 obtain⟨hl,hs⟩:=hj
 dsimp only at e
 rw[e]
 have el:l=s:=by
  have Ib:l.length=n:=hl
  refine aR (by rw[Ib,h.ls]) fun v hv=>?_
  rw[Ib]at hv
  obtain⟨h1,h2,h3⟩:=h.sr v hv
  have:=hs (aa s v).toNat (by rw[Nat.zero_add];unfold dO;rw[length_map,length_zipIdx,bc,h.lr];omega) (by omega)
  rw[h3,toNat_natCast]at this
  dsimp only at this
  omega
 rw[el]
 simp -implicitDefEqProofs only [reduceIte,ah,aj,aG,aH,aI,aJ,gK]
theorem AO(l:List Int)(hn:l.length<=7):pB [.lst (aK l)]=.ok (aK (zS l)):=by
 unfold pB DM
 simp -implicitDefEqProofs only [mS,mD,mF,gm,aP,reduceAdd,reduceSub,reduceEqDiff,reduceIte,ah,aj,aG,aH,aI,aJ,bc]
 rw[MI _ hn]
 simp -implicitDefEqProofs only [reduceIte,ah,aj,aG,aH,aI,aJ,jk]
 rw[qA (fun k=>decide (aa l k.toNat<aa l (k-1).toNat)) _ fun k hk=>⟨_,jy _ _ _,by
  obtain⟨a,rfl,ha⟩:=MJ hk
  unfold wz lI
  simp -implicitDefEqProofs only [reduceIte,ah,aj,aG,aH,aI,aJ]
  rw[fz (by omega) (by omega),fz (by omega) (by omega)]
  simp -implicitDefEqProofs only [reduceIte,ah,aj,aG,aH,aI,aJ],by
  unfold wA lI
  simp -implicitDefEqProofs only [reduceIte,ah,aj,aG,aH,aI,aJ]⟩]
 simp -implicitDefEqProofs only [reduceIte,ah,aj,aG,aH,aI,aJ,R.oA]
 have hd:=ME l
 rw[show List.filter _ _=zS l from rfl,b7 (by omega)]
 simp -implicitDefEqProofs only [reduceIte,ah,aj,aG,aH,aI,aJ,gK]
theorem F7{n:Nat}{r s:List Int}(h:Iv n r s)(hn:n<=7):rz [.lst (aK r)]=.ok (aK (zS s)):=by
 unfold rz AF
 simp -implicitDefEqProofs only [mS,mD,mF,gm,aP,reduceAdd,reduceSub,reduceEqDiff,reduceIte,ah,aj,aG,aH,aI,aJ]
 rw[pC h hn]
 simp -implicitDefEqProofs only [reduceIte,ah,aj,aG,aH,aI,aJ]
 rw[AO s (by rw[h.ls];exact hn)]
 simp -implicitDefEqProofs only [reduceIte,ah,aj,aG,aH,aI,aJ,gK]
theorem tH{l:List Int}(hn:l.length<=7){a:Nat}(ha:a+1<l.length):aQ [.lst (aK l),.int ((a:Int)+1)]=.ok (aK (cK l a)):=by
 unfold aQ gP
 simp -implicitDefEqProofs only [mS,mD,mF,gm,aP,reduceAdd,reduceSub,reduceEqDiff,reduceIte,ah,aj,aG,aH,aI,aJ,jE]
 rw[qw _ _ (by omega),nY _ _ (by omega),fz (by omega) (by omega),fz (by omega) (by omega),show((a:Int)+1-1).toNat=a by omega,show((a:Int)+1+1).toNat=a+2 by omega,show((a:Int)+1).toNat=a+1 by omega]
 simp -implicitDefEqProofs only [reduceIte,ah,aj,aG,aH,aI,aJ]
 rw[show[D.int (aa l (a+1)),D.int (aa l a)]=aK [aa l (a+1),aa l a]from rfl,iQ,b7 (by simp -implicitDefEqProofs only [length_append,length_take,length_cons,length_nil];omega)]
 simp -implicitDefEqProofs only [reduceIte,ah,aj,aG,aH,aI,aJ]
 rw[iQ,DQ l a ha,b7 (by rw[bE];omega)]
 simp -implicitDefEqProofs only [reduceIte,ah,aj,aG,aH,aI,aJ,gK]
theorem Jj{n:Nat}{r s:List Int}(h:Iv n r s)(hn:n<=7){a:Nat}(ha:a+1<n):cF [.lst (aK r),.int ((a:Int)+1)]=.ok (aK (qz r a)):=by
 unfold cF iB
 simp -implicitDefEqProofs only [mS,mD,mF,gm,aP,reduceAdd,reduceSub,reduceEqDiff,reduceIte,ah,aj,aG,aH,aI,aJ]
 rw[pC h hn]
 simp -implicitDefEqProofs only [reduceIte,ah,aj,aG,aH,aI,aJ]
 rw[tH (by rw[h.ls];exact hn) (by rw[h.ls];exact ha)]
 simp -implicitDefEqProofs only [reduceIte,ah,aj,aG,aH,aI,aJ]
 rw[pC (h.step ha).symm hn]
 simp -implicitDefEqProofs only [reduceIte,ah,aj,aG,aH,aI,aJ,gK]
abbrev RP:=List Int×List Int
structure Ad where
 dx:Addr
 kn:Addr
 nu:Addr
 fi:Addr
 la:Addr
 sh:Addr
 lo:Addr
 ke:Addr
 li:Addr
 ks:List Addr
def Ad.hd (A:Ad):List Addr:=[A.dx,A.kn,A.nu,A.fi,A.la,A.sh,A.lo,A.ke,A.li]
def Ad.all (A:Ad):List Addr:=A.hd++A.ks
def uI(A:Ad):List (Str×V):=[("known",.ref A.kn),("numbers",.ref A.nu),("firsts",.ref A.fi),("lasts",.ref A.la),("shorter",.ref A.sh),("longer",.ref A.lo),("kept",.ref A.ke),("line",.ref A.li)]
def kk(r:List Int):List Key:=r.map Sum.inl
theorem ZV(r:List Int):(kk r).map kV=r.map V.int:=by unfold kk;rw[map_map];rfl
theorem Jk{r s:List Int}(h:kk r=kk s):r=s:=by
 unfold kk at h
 exact(List.map_inj_right (fun x y e=>Sum.inl.inj e)).mp h
def Cq(ks:List Int):Int:=ks.foldl (fun b k=>Builtin.bitOr b (1*2^(k-1).toNat)) 0
def uJ(l:List Int):Int:=Cq (zS l)
def nv(p:RP)(a:Nat):RP:=(cK p.1 a,qz p.2 a)
def qB(p:RP)(a:Nat):RP:=(qz p.1 a,cK p.2 a)
def km(p q:RP):List Int:=(zS q.2).filter fun k=> !decide (k∈zS p.1)
def cJ:Nat->RP->RP->RP×RP
 |0,p,q=>(p,q)
 |f+1,p,q=>match (km p q).getLast? with
  |none=>(p,q)
  |some k=>cJ f (nv p (k-1).toNat) (qB q (k-1).toNat)
theorem Iv.uniq {n:Nat}{r r' s:List Int}(h:Iv n r s)(g:Iv n r' s):r=r':=by
 refine aR (by rw[h.lr,g.lr]) fun j hj=>?_
 obtain⟨a1,a2,a3⟩:=h.rs j (by rw[h.lr]at hj;exact hj)
 obtain⟨b1,b2,b3⟩:=g.sr (aa r j).toNat (by omega)
 rw[a3,toNat_natCast]at b3
 omega
theorem jz{n:Nat}{p q:RP}(h:Iv n p.1 p.2)(g:Iv n q.1 q.2)(e:p.1=q.1):p=q:=by
 have h':=h.symm
 rw[e]at h'
 exact Prod.ext e (Iv.uniq h' g.symm)
structure hU(C:Addr)(H:Hp)(a:Addr)(A:Ad)(ex:List (Str×V))(n:Nat)(kn:List RP)(ln:List Int)(B:Nat)(nu sh lo ke:List (List Key×V)):Prop where
 ob:H a=some (.ins C A.dx (uI A++ex))
 dx:∃o,H A.dx=some o
 nd:(a::A.all).Nodup
 hkn:H A.kn=some (.lst (A.ks.map V.ref))
 AQ:A.ks.length=kn.length
 hks:∀(i:Nat)(b:Addr)(p:RP),A.ks[i]?=some b->kn[i]?=some p->H b=some (.lst (p.1.map V.int))
 xU:H A.nu=some (.dT nu)
 xy:H A.fi=some (.lst (kn.map fun p=>V.int (uJ p.2)))
 hla:H A.la=some (.lst (kn.map fun p=>V.int (uJ p.1)))
 hsh:H A.sh=some (.dT sh)
 hlo:H A.lo=some (.dT lo)
 hke:H A.ke=some (.dT ke)
 hli:H A.li=some (.lst (ln.map V.int))
 rw:∀p∈kn,Iv n p.1 p.2
 n1:∀(i:Nat)(p:RP),kn[i]?=some p->du nu (kk p.1)=some (.int i)
 n2:∀r:List Int,(∀p∈kn,p.1≠r)->du nu (kk r)=none
 s1:∀(i:Nat)(k:Int)(v:V),du sh [.inl (i:Int),.inl k]=some v->∃(j:Nat)(p:RP),kn[i]?=some p/\kn[j]?=some (qB p (k-1).toNat)/\v=.int j
 l1:∀(i:Nat)(k:Int)(v:V),du lo [.inl (i:Int),.inl k]=some v->∃(j:Nat)(p:RP),kn[i]?=some p/\kn[j]?=some (nv p (k-1).toNat)/\v=.int j
 k1:∀(i j:Nat)(v:V),du ke [.inl (i:Int),.inl (j:Int)]=some v->∃(t:Addr)(i' j':Nat)(p q:RP),kn[i]?=some p/\kn[j]?=some q/\v=.ref t/\H t=some (.tup [.int i',.int j'])/\kn[i']?=some (cJ 50 p q).1/\kn[j']?=some (cJ 50 p q).2
 z:kn.length<=B/\nu.length<=B/\sh.length<=B/\lo.length<=B/\ke.length<=B
 li:∀m∈ln,0<=m/\m<kn.length
theorem hU.same {C:Addr}{H H':Hp}{a:Addr}{A:Ad}{ex:List (Str×V)}{n:Nat}{kn:List RP}{ln:List Int}{B:Nat}{nu sh lo ke:List (List Key×V)}(c:hU C H a A ex n kn ln B nu sh lo ke)(s:aM H H'):hU C H' a A ex n kn ln B nu sh lo ke:=
 ⟨s _ _ c.ob,let⟨o,h⟩:=c.dx;⟨o,s _ _ h⟩,c.nd,s _ _ c.hkn,c.AQ,fun i b p e1 e2=>s _ _ (c.hks i b p e1 e2),s _ _ c.xU,s _ _ c.xy,s _ _ c.hla,s _ _ c.hsh,s _ _ c.hlo,s _ _ c.hke,s _ _ c.hli,c.rw,c.n1,c.n2,c.s1,c.l1,
  fun i j v e=>by
   obtain⟨t,i',j',p,q,h1,h2,h3,h4,h5⟩:=c.k1 i j v e
   exact⟨t,i',j',p,q,h1,h2,h3,s _ _ h4,h5⟩,c.z,c.li⟩
theorem hU.more {C:Addr}{H:Hp}{a:Addr}{A:Ad}{ex:List (Str×V)}{n:Nat}{kn:List RP}{ln:List Int}{B B':Nat}{nu sh lo ke:List (List Key×V)}(c:hU C H a A ex n kn ln B nu sh lo ke)(h:B<=B'):hU C H a A ex n kn ln B' nu sh lo ke:=
 {c with z:=by have:=c.z;omega}
theorem hU.SJ {C:Addr}{H:Hp}{a:Addr}{A:Ad}{ex:List (Str×V)}{n:Nat}{kn:List RP}{ln:List Int}{B:Nat}{nu sh lo ke:List (List Key×V)}(c:hU C H a A ex n kn ln B nu sh lo ke):
  (A.kn≠A.fi/\A.kn≠A.la/\A.kn≠A.li/\A.fi≠A.la/\A.fi≠A.li/\A.la≠A.li)/\(A.nu≠A.sh/\A.nu≠A.lo/\A.nu≠A.ke/\A.sh≠A.lo/\A.sh≠A.ke/\A.lo≠A.ke)/\
  (∀b∈A.ks,b≠A.kn/\b≠A.fi/\b≠A.la/\b≠A.li)/\(A.dx≠A.kn/\A.dx≠A.nu/\A.dx≠A.fi/\A.dx≠A.la/\A.dx≠A.sh/\A.dx≠A.lo/\A.dx≠A.ke/\A.dx≠A.li/\a≠A.dx)/\(∀b∈A.ks,b≠A.dx):=by
 have nd:=c.nd
 unfold Ad.all Ad.hd at nd
 simp only [cons_append,nil_append,nodup_cons,mem_cons,not_or]at nd
 obtain⟨⟨a1,a2⟩,⟨d1,d2,d3,d4,d5,d6,d7,d8,d9⟩,⟨k1,k2,k3,k4,k5,k6,k7,k8⟩,⟨n1,n2,n3,n4,n5,n6,n7⟩,⟨f1,f2,f3,f4,f5,f6⟩,⟨l1,l2,l3,l4,l5⟩,⟨s1,s2,s3,s4⟩,⟨o1,o2,o3⟩,⟨e1,e2⟩,i1,_⟩:=nd
 refine⟨⟨k2,k3,k7,f1,f5,l4⟩,⟨n3,n4,n5,s1,s2,o1⟩,fun b hb=>⟨fun z=>k8 (z▸hb),fun z=>f6 (z▸hb),fun z=>l5 (z▸hb),fun z=>i1 (z▸hb)⟩,⟨d1,d2,d3,d4,d5,d6,d7,d8,a1⟩,fun b hb z=>d9 (z▸hb)⟩
structure ie(H H':Hp)(F F':List Addr):Prop where
 kp:∀x o,x∉F->H x=some o->H' x=some o
 nw:∀x∈F',x∈F\/H x=none
 gr:∀x,H' x=none->H x=none
theorem ie.refl (H:Hp)(F:List Addr):ie H H F F:=⟨fun _ _ _ h=>h,fun _ h=>.inl h,fun _ h=>h⟩
theorem ie.trans {H H1 H2:Hp}{F F1 F2:List Addr}(a:ie H H1 F F1)(b:ie H1 H2 F1 F2):ie H H2 F F2:=
 ⟨fun x o hx h=>b.kp x o (fun z=>(a.nw x z).elim hx fun q=>by rw[h]at q;cases q) (a.kp x o hx h),fun x hx=>(b.nw x hx).elim (fun z=>a.nw x z) fun z=>.inr (a.gr x z),fun x hx=>a.gr x (b.gr x hx)⟩
theorem ie.same {H H1:Hp}(s:aM H H1)(F:List Addr):ie H H1 F F:=⟨fun x o _ h=>s x o h,fun _ h=>.inl h,fun _ h=>s.free h⟩
theorem ie.upd {H:Hp}{F:List Addr}{x:Addr}(hx:x∈F)(o:HO):ie H (upd H x o) F F:=⟨fun y o' hy h=>by rw[ai (fun z=>hy (by rw[z];exact hx))];exact h,fun _ h=>.inl h,fun y hy=>by
 by_cases z:y=x
 ·rw[z,ar]at hy;cases hy
 ·rw[ai z]at hy;exact hy⟩
theorem hU.there {C:Addr}{H:Hp}{a:Addr}{A:Ad}{ex:List (Str×V)}{n:Nat}{kn:List RP}{ln:List Int}{B:Nat}{nu sh lo ke:List (List Key×V)}(c:hU C H a A ex n kn ln B nu sh lo ke){x:Addr}(hx:x∈a::A.all):∃o,H x=some o:=by
 rcases mem_cons.mp hx with rfl|hx
 ·exact⟨_,c.ob⟩
 ·rcases mem_append.mp hx with hx|hx
  ·unfold Ad.hd at hx
   simp only [mem_cons,not_mem_nil,or_false]at hx
   rcases hx with rfl|rfl|rfl|rfl|rfl|rfl|rfl|rfl|rfl
   ·exact c.dx
   ·exact⟨_,c.hkn⟩
   ·exact⟨_,c.xU⟩
   ·exact⟨_,c.xy⟩
   ·exact⟨_,c.hla⟩
   ·exact⟨_,c.hsh⟩
   ·exact⟨_,c.hlo⟩
   ·exact⟨_,c.hke⟩
   ·exact⟨_,c.hli⟩
  ·obtain⟨i,hi,ei⟩:=getElem_of_mem hx
   exact⟨_,c.hks i x (kn[i]'(by rw[<-c.AQ];exact hi)) (by rw[getElem?_eq_getElem hi,ei]) (getElem?_eq_getElem (by rw[<-c.AQ];exact hi))⟩
theorem oE{α:Type}{l:List α}{x y:α}{i:Nat}(e:(l++[x])[i]?=some y)(h:¬i<l.length):i=l.length/\x=y:=by
 have h1:=(List.getElem?_eq_some_iff.mp e).1
 rw[length_append,length_singleton]at h1
 have h2:i=l.length:=by omega
 subst h2
 exact⟨rfl,by simpa using e⟩
theorem bW{α:Type}{l m:List α}{x:α}{i:Nat}(e:l[i]?=some x):(l++m)[i]?=some x:=by
 rw[getElem?_append_left (List.getElem?_eq_some_iff.mp e).1]
 exact e
theorem hU.add {C:Addr}{H H9:Hp}{a:Addr}{A:Ad}{ex:List (Str×V)}{n:Nat}{kn:List RP}{ln:List Int}{B:Nat}{nu sh lo ke:List (List Key×V)}(c:hU C H a A ex n kn ln B nu sh lo ke){p:RP}(hm:¬∃q∈kn,q.1=p.1)(iv:Iv n p.1 p.2){l2:Addr}(Ue:H l2=none)
  (XC:H9 a=some (.ins C A.dx (uI A++ex)))(XD:H9 A.nu=some (.dT (putK nu (kk p.1) (.int (kn.length:Int)))))(ZW:H9 A.kn=some (.lst (A.ks.map V.ref++[.ref l2])))
  (ZX:H9 A.fi=some (.lst ((kn.map fun p=>V.int (uJ p.2))++[V.int (uJ p.2)])))(ZY:H9 A.la=some (.lst ((kn.map fun p=>V.int (uJ p.1))++[V.int (uJ p.1)])))(ZZ:H9 l2=some (.lst (p.1.map V.int)))
  (keep:∀x o,x≠A.nu->x≠A.kn->x≠A.fi->x≠A.la->H x=some o->H9 x=some o):hU C H9 a {A with ks:=A.ks++[l2]} ex n (kn++[p]) ln (B+1) (putK nu (kk p.1) (.int (kn.length:Int))) sh lo ke:=by
 have xV:∀j,du (putK nu (kk p.1) (.int (kn.length:Int))) j=if j=kk p.1 then some (.int (kn.length:Int))else du nu j:=fun j=>jO nu (kk p.1) j _
 have hz:(kn++[p]).length<=B+1/\(putK nu (kk p.1) (.int (kn.length:Int))).length<=B+1/\sh.length<=B+1/\lo.length<=B+1/\ke.length<=B+1:=by
  have h0:=c.z
  have h1:=gk nu (kk p.1) (.int (kn.length:Int))
  rw[length_append,length_singleton]
  omega
 have hli:∀m∈ln,0<=m/\m<((kn++[p]).length:Int):=fun m hm'=>by
  have:=c.li m hm'
  rw[length_append]
  omega
 have nl:∀{x y:Addr}{xs:List V}{kv:List (List Key×V)},H x=some (.lst xs)->H y=some (.dT kv)->x≠y:=fun h1 h2=>bM h1 h2 (by intro z;cases z)
 obtain⟨⟨n1,n2,n3,n4,n5,n6⟩,⟨m1,m2,m3,m4,m5,m6⟩,SK,⟨d1,d2,d3,d4,d5,d6,d7,d8,d9⟩,Wc⟩:=c.SJ
 refine⟨XC,?_,?_,by rw[map_append];exact ZW,by rw[length_append,length_append,c.AQ];rfl,fun i b' q' e1 e2=>?_,XD,by rw[map_append];exact ZX,by rw[map_append];exact ZY,
  keep _ _ (Ne.symm m1) (Ne.symm (nl c.hkn c.hsh)) (Ne.symm (nl c.xy c.hsh)) (Ne.symm (nl c.hla c.hsh)) c.hsh,
  keep _ _ (Ne.symm m2) (Ne.symm (nl c.hkn c.hlo)) (Ne.symm (nl c.xy c.hlo)) (Ne.symm (nl c.hla c.hlo)) c.hlo,
  keep _ _ (Ne.symm m3) (Ne.symm (nl c.hkn c.hke)) (Ne.symm (nl c.xy c.hke)) (Ne.symm (nl c.hla c.hke)) c.hke,
  keep _ _ (nl c.hli c.xU) (Ne.symm n3) (Ne.symm n5) (Ne.symm n6) c.hli,fun q' BO=>?_,fun i q' e=>?_,fun r hr'=>?_,fun i k' v e=>?_,fun i k' v e=>?_,fun i j v e=>?_,hz,hli⟩
 ·obtain⟨o,ho⟩:=c.dx
  exact⟨o,keep _ _ d2 d1 d3 d4 ho⟩
 ·show(a::(A.hd++(A.ks++[l2]))).Nodup
  rw[<-List.append_assoc,<-cons_append,List.nodup_append]
  refine⟨c.nd,by simp,fun x hx y hy=>?_⟩
  have ey:y=l2:=by simpa using hy
  rw[ey]
  intro z
  obtain⟨o,ho⟩:=c.there hx
  rw[z,Ue]at ho
  cases ho
 ·have LR:(A.ks++[l2])[i]?=some b':=e1
  by_cases hi:i<kn.length
  ·rw[getElem?_append_left (by rw[c.AQ];exact hi)]at LR
   rw[getElem?_append_left hi]at e2
   have K7:=SK b' (mem_of_getElem? LR)
   have hbH:=c.hks i b' q' LR e2
   exact keep _ _ (nl hbH c.xU) K7.1 K7.2.1 K7.2.2.1 hbH
  ·obtain⟨_,z2⟩:=oE e2 hi
   obtain⟨_,z1⟩:=oE LR (by rw[c.AQ];exact hi)
   rw[<-z1,<-z2]
   exact ZZ
 ·rcases mem_append.mp BO with h|h
  ·exact c.rw q' h
  ·have:q'=p:=by simpa using h
   rw[this];exact iv
 ·rw[xV]
  by_cases hi:i<kn.length
  ·rw[getElem?_append_left hi]at e
   have hne:¬kk q'.1=kk p.1:=fun z=>hm ⟨q',mem_of_getElem? e,Jk z⟩
   rw[if_neg hne]
   exact c.n1 i q' e
  ·obtain⟨z1,z2⟩:=oE e hi
   rw[<-z2,if_pos rfl,z1]
 ·rw[xV,if_neg (fun z=>hr' p (by simp) (Jk z).symm)]
  exact c.n2 r fun q' BO=>hr' q' (by simp[BO])
 ·obtain⟨j,p',h1,h2,h3⟩:=c.s1 i k' v e
  exact⟨j,p',bW h1,bW h2,h3⟩
 ·obtain⟨j,p',h1,h2,h3⟩:=c.l1 i k' v e
  exact⟨j,p',bW h1,bW h2,h3⟩
 ·obtain⟨t',i',j',p',q',h1,h2,h3,h4,h5,h6⟩:=c.k1 i j v e
  have nt:∀{y:Addr}{xs:List V},H y=some (.lst xs)->t'≠y:=fun h=>bM h4 h (by intro z;cases z)
  exact⟨t',i',j',p',q',bW h1,bW h2,h3,keep _ _ (bM h4 c.xU (by intro z;cases z)) (nt c.hkn) (nt c.xy) (nt c.hla) h4,bW h5,bW h6⟩
theorem hU.SM {C:Addr}{H:Hp}{a:Addr}{A:Ad}{ex:List (Str×V)}{n:Nat}{kn:List RP}{ln:List Int}{B:Nat}{nu sh lo ke:List (List Key×V)}(c:hU C H a A ex n kn ln B nu sh lo ke){i j:Nat}{k:Int}{p:RP}(hi:kn[i]?=some p)(hj:kn[j]?=some (qB p (k-1).toNat)):
  hU C (upd H A.sh (.dT (putK sh [.inl (i:Int),.inl k] (.int j)))) a A ex n kn ln (B+1) nu (putK sh [.inl (i:Int),.inl k] (.int j)) lo ke:=by
 have hz:kn.length<=B+1/\nu.length<=B+1/\(putK sh ([.inl (i:Int),.inl k]:List Key) (.int j)).length<=B+1/\lo.length<=B+1/\ke.length<=B+1:=by
  have h0:=c.z
  have h1:=gk sh ([.inl (i:Int),.inl k]:List Key) (.int j)
  omega
 have xV:∀x,du (putK sh ([.inl (i:Int),.inl k]:List Key) (.int j)) x=if x=[.inl (i:Int),.inl k]then some (.int j)else du sh x:=fun x=>jO sh _ x _
 have nl:∀{x:Addr}{xs:List V},H x=some (.lst xs)->x≠A.sh:=fun h1=>bM h1 c.hsh (by intro z;cases z)
 obtain⟨_,⟨m1,m2,m3,m4,m5,m6⟩,SK,⟨d1,d2,d3,d4,d5,d6,d7,d8,d9⟩,Wc⟩:=c.SJ
 have kp:∀x o,x≠A.sh->H x=some o->(upd H A.sh (.dT (putK sh [.inl (i:Int),.inl k] (.int j)))) x=some o:=fun x o hx h=>by rw[ai hx];exact h
 have Z0:∀(i':Nat)(k':Int)(v:V),du (putK sh ([.inl (i:Int),.inl k]:List Key) (.int j)) [.inl (i':Int),.inl k']=some v->∃(j:Nat)(p:RP),kn[i']?=some p/\kn[j]?=some (qB p (k'-1).toNat)/\v=.int j:=fun i' k' v e=>by
  rw[xV]at e
  split at e
  ·rename_i z
   injection z with z1 z2
   injection z2 with z2 _
   have q1:(i':Int)=i:=Sum.inl.inj z1
   have q2:k'=k:=Sum.inl.inj z2
   have q3:i'=i:=by omega
   subst q2 q3
   cases e
   exact⟨j,p,hi,hj,rfl⟩
  ·exact c.s1 i' k' v e
 refine⟨kp _ _ (bM c.ob c.hsh (by intro z;cases z)) c.ob,?_,c.nd,kp _ _ (nl c.hkn) c.hkn,c.AQ,fun i b p e1 e2=>kp _ _ (nl (c.hks i b p e1 e2)) (c.hks i b p e1 e2),kp _ _ m1 c.xU,kp _ _ (nl c.xy) c.xy,kp _ _ (nl c.hla) c.hla,ar,kp _ _ (Ne.symm m4) c.hlo,kp _ _ (Ne.symm m5) c.hke,kp _ _ (nl c.hli) c.hli,c.rw,c.n1,c.n2,Z0,c.l1,fun i j v e=>?_,hz,c.li⟩
 ·obtain⟨o,h⟩:=c.dx
  exact⟨o,kp _ _ d5 h⟩
 ·obtain⟨t,i',j',p,q,h1,h2,h3,h4,h5⟩:=c.k1 i j v e
  exact⟨t,i',j',p,q,h1,h2,h3,kp _ _ (bM h4 c.hsh (by intro z;cases z)) h4,h5⟩
theorem hU.SN {C:Addr}{H:Hp}{a:Addr}{A:Ad}{ex:List (Str×V)}{n:Nat}{kn:List RP}{ln:List Int}{B:Nat}{nu sh lo ke:List (List Key×V)}(c:hU C H a A ex n kn ln B nu sh lo ke){i j:Nat}{k:Int}{p:RP}(hi:kn[i]?=some p)(hj:kn[j]?=some (nv p (k-1).toNat)):
  hU C (upd H A.lo (.dT (putK lo [.inl (i:Int),.inl k] (.int j)))) a A ex n kn ln (B+1) nu sh (putK lo [.inl (i:Int),.inl k] (.int j)) ke:=by
 have hz:kn.length<=B+1/\nu.length<=B+1/\sh.length<=B+1/\(putK lo ([.inl (i:Int),.inl k]:List Key) (.int j)).length<=B+1/\ke.length<=B+1:=by
  have h0:=c.z
  have h1:=gk lo ([.inl (i:Int),.inl k]:List Key) (.int j)
  omega
 have xV:∀x,du (putK lo ([.inl (i:Int),.inl k]:List Key) (.int j)) x=if x=[.inl (i:Int),.inl k]then some (.int j)else du lo x:=fun x=>jO lo _ x _
 have nl:∀{x:Addr}{xs:List V},H x=some (.lst xs)->x≠A.lo:=fun h1=>bM h1 c.hlo (by intro z;cases z)
 obtain⟨_,⟨m1,m2,m3,m4,m5,m6⟩,SK,⟨d1,d2,d3,d4,d5,d6,d7,d8,d9⟩,Wc⟩:=c.SJ
 have kp:∀x o,x≠A.lo->H x=some o->(upd H A.lo (.dT (putK lo [.inl (i:Int),.inl k] (.int j)))) x=some o:=fun x o hx h=>by rw[ai hx];exact h
 have Z0:∀(i':Nat)(k':Int)(v:V),du (putK lo ([.inl (i:Int),.inl k]:List Key) (.int j)) [.inl (i':Int),.inl k']=some v->∃(j:Nat)(p:RP),kn[i']?=some p/\kn[j]?=some (nv p (k'-1).toNat)/\v=.int j:=fun i' k' v e=>by
  rw[xV]at e
  split at e
  ·rename_i z
   injection z with z1 z2
   injection z2 with z2 _
   have q1:(i':Int)=i:=Sum.inl.inj z1
   have q2:k'=k:=Sum.inl.inj z2
   have q3:i'=i:=by omega
   subst q2 q3
   cases e
   exact⟨j,p,hi,hj,rfl⟩
  ·exact c.l1 i' k' v e
 refine⟨kp _ _ (bM c.ob c.hlo (by intro z;cases z)) c.ob,?_,c.nd,kp _ _ (nl c.hkn) c.hkn,c.AQ,fun i b p e1 e2=>kp _ _ (nl (c.hks i b p e1 e2)) (c.hks i b p e1 e2),kp _ _ m2 c.xU,kp _ _ (nl c.xy) c.xy,kp _ _ (nl c.hla) c.hla,kp _ _ m4 c.hsh,ar,kp _ _ (Ne.symm m6) c.hke,kp _ _ (nl c.hli) c.hli,c.rw,c.n1,c.n2,c.s1,Z0,fun i j v e=>?_,hz,c.li⟩
 ·obtain⟨o,h⟩:=c.dx
  exact⟨o,kp _ _ d6 h⟩
 ·obtain⟨t,i',j',p,q,h1,h2,h3,h4,h5⟩:=c.k1 i j v e
  exact⟨t,i',j',p,q,h1,h2,h3,kp _ _ (bM h4 c.hlo (by intro z;cases z)) h4,h5⟩
theorem hU.SQ {C:Addr}{H:Hp}{a:Addr}{A:Ad}{ex:List (Str×V)}{n:Nat}{kn:List RP}{ln:List Int}{B:Nat}{nu sh lo ke:List (List Key×V)}(c:hU C H a A ex n kn ln B nu sh lo ke){i j i' j':Nat}{p q:RP}{t:Addr}(hi:kn[i]?=some p)(hj:kn[j]?=some q)(ht:H t=some (.tup [.int i',.int j']))(xW:kn[i']?=some (cJ 50 p q).1)(Ce:kn[j']?=some (cJ 50 p q).2):
  hU C (upd H A.ke (.dT (putK ke [.inl (i:Int),.inl (j:Int)] (.ref t)))) a A ex n kn ln (B+1) nu sh lo (putK ke [.inl (i:Int),.inl (j:Int)] (.ref t)):=by
 have hz:kn.length<=B+1/\nu.length<=B+1/\sh.length<=B+1/\lo.length<=B+1/\(putK ke ([.inl (i:Int),.inl (j:Int)]:List Key) (.ref t)).length<=B+1:=by
  have h0:=c.z
  have h1:=gk ke ([.inl (i:Int),.inl (j:Int)]:List Key) (.ref t)
  omega
 have xV:∀x,du (putK ke ([.inl (i:Int),.inl (j:Int)]:List Key) (.ref t)) x=if x=[.inl (i:Int),.inl (j:Int)]then some (.ref t)else du ke x:=fun x=>jO ke _ x _
 have nl:∀{x:Addr}{xs:List V},H x=some (.lst xs)->x≠A.ke:=fun h1=>bM h1 c.hke (by intro z;cases z)
 have nt:∀{x:Addr}{xs:List V},H x=some (.tup xs)->x≠A.ke:=fun h1=>bM h1 c.hke (by intro z;cases z)
 obtain⟨_,⟨m1,m2,m3,m4,m5,m6⟩,SK,⟨d1,d2,d3,d4,d5,d6,d7,d8,d9⟩,Wc⟩:=c.SJ
 have kp:∀x o,x≠A.ke->H x=some o->(upd H A.ke (.dT (putK ke [.inl (i:Int),.inl (j:Int)] (.ref t)))) x=some o:=fun x o hx h=>by rw[ai hx];exact h
 refine⟨kp _ _ (bM c.ob c.hke (by intro z;cases z)) c.ob,?_,c.nd,kp _ _ (nl c.hkn) c.hkn,c.AQ,fun i b p e1 e2=>kp _ _ (nl (c.hks i b p e1 e2)) (c.hks i b p e1 e2),kp _ _ m3 c.xU,kp _ _ (nl c.xy) c.xy,kp _ _ (nl c.hla) c.hla,kp _ _ m5 c.hsh,kp _ _ m6 c.hlo,ar,kp _ _ (nl c.hli) c.hli,c.rw,c.n1,c.n2,c.s1,c.l1,fun x y v e=>?_,hz,c.li⟩
 ·obtain⟨o,h⟩:=c.dx
  exact⟨o,kp _ _ d7 h⟩
 ·rw[xV]at e
  split at e
  ·rename_i z
   injection z with z1 z2
   injection z2 with z2 _
   have q1:(x:Int)=i:=Sum.inl.inj z1
   have q2:(y:Int)=j:=Sum.inl.inj z2
   have q3:x=i:=by omega
   have q4:y=j:=by omega
   subst q3 q4
   cases e
   exact⟨t,i',j',p,q,hi,hj,rfl,kp _ _ (nt ht) ht,xW,Ce⟩
  ·obtain⟨t,i',j',p,q,h1,h2,h3,h4,h5⟩:=c.k1 x y v e
   exact⟨t,i',j',p,q,h1,h2,h3,kp _ _ (nt h4) h4,h5⟩
section
variable{A:Ad}{ex:List (Str×V)}
theorem yv:(uI A++ex).lookup ("known":Str)=some (.ref A.kn):=rfl
theorem DS:(uI A++ex).lookup ("numbers":Str)=some (.ref A.nu):=rfl
theorem Jl:(uI A++ex).lookup ("firsts":Str)=some (.ref A.fi):=rfl
theorem Jm:(uI A++ex).lookup ("lasts":Str)=some (.ref A.la):=rfl
theorem DT:(uI A++ex).lookup ("shorter":Str)=some (.ref A.sh):=rfl
theorem DU:(uI A++ex).lookup ("longer":Str)=some (.ref A.lo):=rfl
theorem Jo:(uI A++ex).lookup ("kept":Str)=some (.ref A.ke):=rfl
theorem AR:(uI A++ex).lookup ("line":Str)=some (.ref A.li):=rfl
end
def uv(z w:Int):List (Str×V):=[("none",.int z),("whole",.int w)]
theorem O3{A:Ad}{z w:Int}:(uI A++uv z w).lookup ("none":Str)=some (.int z):=rfl
theorem Wd{A:Ad}{z w:Int}:(uI A++uv z w).lookup ("whole":Str)=some (.int w):=rfl
abbrev six:List Int:=[1,2,3,4,5,6]
def SR(l:List (Int×Bool)):List Int:=(l.filter (·.2)).map (·.1)
def sel(b1 b2 b3 b4 b5 b6:Bool):List Int:=SR [(1,b1),(2,b2),(3,b3),(4,b4),(5,b5),(6,b6)]
theorem wG(f:Int->Bool):∀l:List Int,l.filter f=SR (l.map fun k=>(k,f k))
 |[]=>rfl
 |k::l=>by
  have ih:=wG f l
  unfold SR at ih⊢
  rw[map_cons]
  cases h:f k with
  |true=>rw[List.filter_cons_of_pos h,List.filter_cons_of_pos (by rfl),map_cons,ih]
  |false=>rw[List.filter_cons_of_neg (by rw[h];decide),List.filter_cons_of_neg (by simp),ih]
theorem rC(f:Int->Bool):six.filter f=sel (f 1) (f 2) (f 3) (f 4) (f 5) (f 6):=wG f six
theorem MK(f:Int->Bool):∀m:Nat,m<=7->((range (m-1)).map fun i=>1+((i:Nat):Int)).filter f=six.filter fun k=>decide (k.toNat<m)&&f k
 |0,_=>rfl
 |1,_=>rfl
 |2,_=>rfl
 |3,_=>rfl
 |4,_=>rfl
 |5,_=>rfl
 |6,_=>rfl
 |7,_=>rfl
 |m+8,h=>by omega
def We(l:List Int)(k:Int):Bool:=decide (k.toNat<l.length)&&decide (aa l k.toNat<aa l (k-1).toNat)
theorem vm{l:List Int}(h:l.length<=7):zS l=six.filter (We l):=MK _ l.length h
theorem Jp:∀b1 b2 b3 b4 b5 b6 c1 c2 c3 c4 c5 c6:Bool,Builtin.bitAnd (Cq (sel b1 b2 b3 b4 b5 b6)) (Builtin.bitNot (Cq (sel c1 c2 c3 c4 c5 c6)))=Cq (sel (b1&& !c1) (b2&& !c2) (b3&& !c3) (b4&& !c4) (b5&& !c5) (b6&& !c6)):=by decide +kernel
theorem AS:∀b1 b2 b3 b4 b5 b6:Bool,decide (0<Cq (sel b1 b2 b3 b4 b5 b6))=(sel b1 b2 b3 b4 b5 b6).getLast?.isSome/\∀k∈(sel b1 b2 b3 b4 b5 b6).getLast?,((Builtin.Int.intBits (Cq (sel b1 b2 b3 b4 b5 b6)):Nat):Int)=k:=by decide +kernel
theorem zm{p q:RP}(hp:p.1.length<=7)(hq:q.2.length<=7):km p q=six.filter fun k=>We q.2 k&& !We p.1 k:=by
 unfold km
 rw[vm hq,vm hp,List.filter_filter]
 refine List.filter_congr fun k hk=>?_
 have:decide (k∈six.filter (We p.1))=We p.1 k:=by
  rw[Bool.eq_iff_iff,decide_eq_true_iff,mem_filter]
  exact⟨fun h=>h.2,fun h=>⟨hk,h⟩⟩
 rw[this,Bool.and_comm]
theorem DV{p q:RP}(hp:p.1.length<=7)(hq:q.2.length<=7):Builtin.bitAnd (uJ q.2) (Builtin.bitNot (uJ p.1))=Cq (km p q):=by
 unfold uJ
 rw[vm hq,vm hp,zm hp hq,rC,rC,rC]
 exact Jp ..
theorem Jq{p q:RP}(hp:p.1.length<=7)(hq:q.2.length<=7):decide (0<Cq (km p q))=(km p q).getLast?.isSome:=by
 rw[zm hp hq,rC]
 exact(AS ..).1
theorem Jr{p q:RP}(hp:p.1.length<=7)(hq:q.2.length<=7){k:Int}(h:(km p q).getLast?=some k):((Builtin.Int.intBits (Cq (km p q)):Nat):Int)=k:=by
 rw[zm hp hq,rC]at h⊢
 exact(AS ..).2 k h
theorem yw:∀(l pre:List Int),zT pre l<=l.length*(pre.length+l.length)
 |[],pre=>by simp[zT]
 |x::l,pre=>by
  have h1:xT x pre<=pre.length:=List.length_filter_le _ _
  have h2:=yw l (pre++[x])
  rw[length_append,length_singleton]at h2
  show xT x pre+zT (pre++[x]) l<=(l.length+1)*(pre.length+(l.length+1))
  rw[Nat.add_mul,show pre.length+(l.length+1)=pre.length+1+l.length by omega]
  omega
theorem tJ{n:Nat}{p:RP}(hn:n<=7)(h:Iv n p.1 p.2):fU p.1<=49:=by
 have h1:=yw p.1 []
 rw[h.lr,length_nil,Nat.zero_add]at h1
 have h2:n*n<=7*7:=Nat.mul_le_mul hn hn
 unfold fU
 omega
theorem mG{n:Nat}{p q:RP}(hp:Iv n p.1 p.2)(hq:Iv n q.1 q.2){k:Int}(h:k∈km p q):∃j:Nat,k=(j:Int)+1/\j+1<n/\aa p.1 j<aa p.1 (j+1)/\aa q.2 (j+1)<aa q.2 j:=by
 unfold km at h
 obtain⟨h1,h2⟩:=mem_filter.mp h
 obtain⟨j,e,h3,h4⟩:=rB.mp h1
 rw[hq.ls]at h3
 have h5:k∉zS p.1:=by simpa using h2
 have h6:¬aa p.1 (j+1)<aa p.1 j:=fun z=>h5 (rB.mpr ⟨j,e,by rw[hp.lr];exact h3,z⟩)
 have h7:aa p.1 j≠aa p.1 (j+1):=fun z=>by
  have:=hp.symm.GR (v:=j) (w:=j+1) (by omega) h3 z
  omega
 exact⟨j,e,h3,by omega,h4⟩
theorem bQ{n:Nat}{p:RP}(h:Iv n p.1 p.2){j:Nat}(hj:j+1<n):Iv n (nv p j).1 (nv p j).2:=(h.symm.step hj).symm
theorem dY{n:Nat}{p:RP}(h:Iv n p.1 p.2){j:Nat}(hj:j+1<n):Iv n (qB p j).1 (qB p j).2:=h.step hj
theorem lW{p q:RP}{k:Int}(f:Nat)(h:(km p q).getLast?=some k):cJ (f+1) p q=cJ f (nv p (k-1).toNat) (qB q (k-1).toNat):=by
 show(match (km p q).getLast? with
  |none=>(p,q)
  |some k=>cJ f (nv p (k-1).toNat) (qB q (k-1).toNat))=_
 rw[h]
theorem lX{p q:RP}(f:Nat)(h:(km p q).getLast?=none):cJ f p q=(p,q):=by
 cases f with
 |zero=>rfl
 |succ f=>
  show(match (km p q).getLast? with
   |none=>(p,q)
   |some k=>cJ f (nv p (k-1).toNat) (qB q (k-1).toNat))=_
  rw[h]
theorem Js{n:Nat}{p:RP}(h:Iv n p.1 p.2){j:Nat}(hj:j+1<n)(hl:aa p.1 j<aa p.1 (j+1)):fU p.1<fU (nv p j).1:=by
 have e:=vk p.1 j [] (by rw[h.lr];exact hj)
 show zT [] p.1<zT [] (cK p.1 j)
 rw[if_pos hl,if_neg (by omega)]at e
 omega
def nI(ls:List Nat):List Int:=ls.map fun(m:Nat)=>(m:Int)
def cQ(kn:List RP)(ls:List Nat)(R:List RP):Prop:=ls.map (fun m=>kn[m]?)=R.map some
theorem cQ.len {kn:List RP}{ls:List Nat}{R:List RP}(h:cQ kn ls R):ls.length=R.length:=by
 have:=congrArg length h
 simpa using this
theorem cQ.at {kn:List RP}{ls:List Nat}{R:List RP}(h:cQ kn ls R){i:Nat}{r:RP}(e:R[i]?=some r):∃m,ls[i]?=some m/\kn[m]?=some r:=by
 have h1:(ls.map fun m=>kn[m]?)[i]?=(R.map some)[i]?:=by rw[show ls.map (fun m=>kn[m]?)=R.map some from h]
 rw[getElem?_map,getElem?_map,e]at h1
 cases h2:ls[i]? with
 |none=>rw[h2]at h1;cases h1
 |some m=>rw[h2]at h1;exact⟨m,rfl,Option.some.inj h1⟩
theorem cQ.mem {kn:List RP}{ls:List Nat}{R:List RP}(h:cQ kn ls R){m:Nat}(hm:m∈ls):m<kn.length:=by
 have:kn[m]?∈R.map some:=by rw[<-show ls.map (fun m=>kn[m]?)=R.map some from h];exact mem_map.mpr ⟨m,hm,rfl⟩
 obtain⟨r,_,e⟩:=mem_map.mp this
 exact(List.getElem?_eq_some_iff.mp e.symm).1
theorem cQ.li {kn:List RP}{ls:List Nat}{R:List RP}(h:cQ kn ls R):∀m∈nI ls,0<=m/\m<kn.length:=fun m hm=>by
 obtain⟨x,hx,rfl⟩:=mem_map.mp hm
 have:=h.mem hx
 omega
theorem cQ.pre {kn mo:List RP}{ls:List Nat}{R:List RP}(h:cQ kn ls R):cQ (kn++mo) ls R:=by
 unfold cQ
 rw[<-show ls.map (fun m=>kn[m]?)=R.map some from h]
 refine map_congr_left fun m hm=>?_
 rw[getElem?_append_left (h.mem hm)]
theorem cQ.app {kn:List RP}{ls:List Nat}{R:List RP}(h:cQ kn ls R){m:Nat}{r:RP}(e:kn[m]?=some r):cQ kn (ls++[m]) (R++[r]):=by
 unfold cQ
 rw[map_append,map_append,show ls.map (fun m=>kn[m]?)=R.map some from h]
 simp[e]
theorem cQ.set {kn:List RP}{ls:List Nat}{R:List RP}(h:cQ kn ls R)(i:Nat){m:Nat}{r:RP}(e:kn[m]?=some r):cQ kn (ls.set i m) (R.set i r):=by
 unfold cQ
 rw[map_set,map_set,show ls.map (fun m=>kn[m]?)=R.map some from h,e]
theorem cQ.drop {kn:List RP}{ls:List Nat}{R:List RP}(h:cQ kn ls R):cQ kn ls.dropLast R.dropLast:=by
 unfold cQ
 rw[map_dropLast,map_dropLast,show ls.map (fun m=>kn[m]?)=R.map some from h]
theorem ly(ls:List Nat):(nI ls).length=ls.length:=length_map _
def uK:List RP->RP->List RP
 |[],c=>[c]
 |p::ps,c=>if(cJ 50 p c).1=p then c::p::ps else(cJ 50 p c).2::uK ps (cJ 50 p c).1
def rD(R:List RP)(p:RP):List RP:=(uK R.reverse p).reverse
def eO(n:Nat)(R:List RP)(p:RP):List RP:=if(rD R p).getLast?=some (upTo n,upTo n)then(rD R p).dropLast else rD R p
theorem DW:∀(R:List RP)(p:RP),(uK R p).length=R.length+1
 |[],p=>rfl
 |r::R,p=>by
  unfold uK
  split
  ·rfl
  ·rw[length_cons,DW R,length_cons]
theorem vo(R:List RP)(p:RP):(rD R p).length=R.length+1:=by unfold rD;rw[length_reverse,DW,length_reverse]
theorem hU.AU {C:Addr}{H:Hp}{a:Addr}{A:Ad}{ex:List (Str×V)}{n:Nat}{kn:List RP}{ln:List Int}{B:Nat}{nu sh lo ke:List (List Key×V)}(c:hU C H a A ex n kn ln B nu sh lo ke){XE:List Int}(h:∀m∈XE,0<=m/\m<kn.length):
  hU C (upd H A.li (.lst (XE.map V.int))) a A ex n kn XE B nu sh lo ke:=by
 have nd:∀{x:Addr}{xs:List (List Key×V)},H x=some (.dT xs)->x≠A.li:=fun h1=>bM h1 c.hli (by intro z;cases z)
 have nt:∀{x:Addr}{xs:List V},H x=some (.tup xs)->x≠A.li:=fun h1=>bM h1 c.hli (by intro z;cases z)
 obtain⟨⟨n1,n2,n3,n4,n5,n6⟩,_,SK,⟨d1,d2,d3,d4,d5,d6,d7,d8,d9⟩,Wc⟩:=c.SJ
 have kp:∀x o,x≠A.li->H x=some o->(upd H A.li (.lst (XE.map V.int))) x=some o:=fun x o hx h=>by rw[ai hx];exact h
 refine⟨kp _ _ (bM c.ob c.hli (by intro z;cases z)) c.ob,?_,c.nd,kp _ _ n3 c.hkn,c.AQ,fun i b p e1 e2=>kp _ _ (SK b (mem_of_getElem? e1)).2.2.2 (c.hks i b p e1 e2),kp _ _ (nd c.xU) c.xU,kp _ _ n5 c.xy,kp _ _ n6 c.hla,kp _ _ (nd c.hsh) c.hsh,kp _ _ (nd c.hlo) c.hlo,kp _ _ (nd c.hke) c.hke,ar,c.rw,c.n1,c.n2,c.s1,c.l1,fun i j v e=>?_,c.z,h⟩
 ·obtain⟨o,h⟩:=c.dx
  exact⟨o,kp _ _ d8 h⟩
 ·obtain⟨t,i',j',p,q,h1,h2,h3,h4,h5⟩:=c.k1 i j v e
  exact⟨t,i',j',p,q,h1,h2,h3,kp _ _ (nt h4) h4,h5⟩
theorem hU.inj {C:Addr}{H:Hp}{a:Addr}{A:Ad}{ex:List (Str×V)}{n:Nat}{kn:List RP}{ln:List Int}{B:Nat}{nu sh lo ke:List (List Key×V)}(c:hU C H a A ex n kn ln B nu sh lo ke){i j:Nat}{p q:RP}(hi:kn[i]?=some p)(hj:kn[j]?=some q):((i:Int)=j↔p=q):=by
 constructor
 ·intro e
  have:i=j:=by omega
  subst this
  rw[hi]at hj
  exact Option.some.inj hj
 ·rintro rfl
  have h1:=c.n1 i p hi
  rw[c.n1 j p hj]at h1
  injection h1 with h1
  injection h1 with h1
  exact h1.symm
theorem hU.wH {n:Nat}:∀(f:Nat){p q:RP},Iv n p.1 p.2->Iv n q.1 q.2->Iv n (cJ f p q).1.1 (cJ f p q).1.2/\Iv n (cJ f p q).2.1 (cJ f p q).2.2
 |0,p,q,h1,h2=>⟨h1,h2⟩
 |f+1,p,q,h1,h2=>by
  cases hl:(km p q).getLast? with
  |none=>rw[lX _ hl];exact⟨h1,h2⟩
  |some k=>
   rw[lW f hl]
   obtain⟨j,rfl,hj,_⟩:=mG h1 h2 (mem_of_getLast? hl)
   rw[show((j:Int)+1-1).toNat=j by omega]
   exact hU.wH f (bQ h1 hj) (dY h2 hj)
theorem vN{α:Type}{l:List α}{x:α}(h:l.getLast?=some x):ig l (-1)=some x:=by
 obtain⟨ys,rfl⟩:=List.getLast?_eq_some_iff.mp h
 unfold L2.ig L2.qH
 rw[if_neg (by decide),length_append,length_singleton,if_pos (by omega)]
 simp
 rw[show(-1+((ys.length:Int)+1)).toNat=ys.length by omega]
 simp
theorem DX{α:Type}{l:List α}{x:α}(h:l.getLast?=some x):l[l.length-1]?=some x:=by
 obtain⟨ys,rfl⟩:=List.getLast?_eq_some_iff.mp h
 simp
theorem cQ.last {kn:List RP}{ls:List Nat}{R:List RP}(h:cQ kn ls R)(hp:0<R.length):∃m r,ls.getLast?=some m/\R.getLast?=some r/\kn[m]?=some r:=by
 have e:R[R.length-1]?=some (R[R.length-1]'(by omega)):=getElem?_eq_getElem (by omega)
 obtain⟨m,h1,h2⟩:=h.at e
 refine⟨m,_,?_,?_,h2⟩
 ·rw[List.getLast?_eq_getElem?,h.len];exact h1
 ·rw[List.getLast?_eq_getElem?];exact e
theorem SS(ls:List Nat)(m:Nat):(nI (ls++[m])).map V.int=(nI ls).map V.int++[V.int m]:=by unfold nI;simp
theorem tK{ls:List Nat}{i m:Nat}(h:ls[i]?=some m):((nI ls).map V.int)[i]?=some (V.int m):=by unfold nI;rw[getElem?_map,getElem?_map,h];rfl
theorem Jt(ls:List Nat)(i m:Nat):((nI ls).map V.int).set i (V.int m)=(nI (ls.set i m)).map V.int:=by unfold nI;rw[map_set,map_set]
theorem DY(ls:List Nat):((nI ls).map V.int).dropLast=(nI ls.dropLast).map V.int:=by unfold nI;rw[map_dropLast,map_dropLast]
theorem vp{ls:List Nat}{m:Nat}(h:ls.getLast?=some m):((nI ls).map V.int).getLast?=some (V.int m):=by unfold nI;rw[List.getLast?_map,List.getLast?_map,h];rfl
theorem Ju{R:List RP}{t:Nat}{r c:RP}(h:R[t]?=some r):uK (R.take (t+1)).reverse c=if(cJ 50 r c).1=r then c::(R.take (t+1)).reverse else(cJ 50 r c).2::uK (R.take t).reverse (cJ 50 r c).1:=by
 have e:R.take (t+1)=R.take t++[r]:=by rw[take_succ,h];rfl
 rw[e,reverse_append]
 rfl
theorem hU.O4 {C:Addr}{H:Hp}{a:Addr}{A:Ad}{ex:List (Str×V)}{n:Nat}{kn:List RP}{ln:List Int}{B:Nat}{nu sh lo ke:List (List Key×V)}(c:hU C H a A ex n kn ln B nu sh lo ke)(Xd:List (Str×V)):
  hU C (upd H a (.ins C A.dx (uI A++Xd))) a A Xd n kn ln B nu sh lo ke:=by
 have nl:∀{x:Addr}{xs:List V},H x=some (.lst xs)->x≠a:=fun h1=>bM h1 c.ob (by intro z;cases z)
 have nd:∀{x:Addr}{xs:List (List Key×V)},H x=some (.dT xs)->x≠a:=fun h1=>bM h1 c.ob (by intro z;cases z)
 have nt:∀{x:Addr}{xs:List V},H x=some (.tup xs)->x≠a:=fun h1=>bM h1 c.ob (by intro z;cases z)
 obtain⟨_,_,_,⟨d1,d2,d3,d4,d5,d6,d7,d8,d9⟩,_⟩:=c.SJ
 have kp:∀x o,x≠a->H x=some o->(upd H a (.ins C A.dx (uI A++Xd))) x=some o:=fun x o hx h=>by rw[ai hx];exact h
 refine⟨ar,?_,c.nd,kp _ _ (nl c.hkn) c.hkn,c.AQ,fun i b p e1 e2=>kp _ _ (nl (c.hks i b p e1 e2)) (c.hks i b p e1 e2),kp _ _ (nd c.xU) c.xU,kp _ _ (nl c.xy) c.xy,kp _ _ (nl c.hla) c.hla,kp _ _ (nd c.hsh) c.hsh,kp _ _ (nd c.hlo) c.hlo,kp _ _ (nd c.hke) c.hke,kp _ _ (nl c.hli) c.hli,c.rw,c.n1,c.n2,c.s1,c.l1,fun i j v e=>?_,c.z,c.li⟩
 ·obtain⟨o,h⟩:=c.dx
  exact⟨o,kp _ _ (Ne.symm d9) h⟩
 ·obtain⟨t,i',j',p,q,h1,h2,h3,h4,h5⟩:=c.k1 i j v e
  exact⟨t,i',j',p,q,h1,h2,h3,kp _ _ (nt h4) h4,h5⟩
theorem jd{H:Hp}{a C dx:Addr}{fs:List (Str×V)}(hob:H a=some (.ins C dx fs)){l:Addr}(hl:H l=none)(o:HO)(f:Str):
  l≠a/\(upd H l o) a=some (.ins C dx fs)/\(upd (upd H l o) a (.ins C dx (jN f (.ref l) fs))) a=some (.ins C dx (jN f (.ref l) fs))/\(upd (upd H l o) a (.ins C dx (jN f (.ref l) fs))) l=some o/\(∀x u,x≠a->H x=some u->(upd (upd H l o) a (.ins C dx (jN f (.ref l) fs))) x=some u)/\∀x,(upd (upd H l o) a (.ins C dx (jN f (.ref l) fs))) x=none->H x=none:=by
 have hla:l≠a:=fun z=>by rw[z,hob]at hl;cases hl
 refine⟨hla,by rw[ai (Ne.symm hla)];exact hob,ar,by rw[ai hla];exact ar,fun x u hx h=>?_,fun x hx=>?_⟩
 ·rw[ai hx,ai (fun z=>by rw[z,hl]at h;cases h)]
  exact h
 ·by_cases z:x=a
  ·rw[z,ar]at hx;cases hx
  ·rw[ai z]at hx
   by_cases z2:x=l
   ·rw[z2];exact hl
   ·rw[ai z2]at hx;exact hx
def eJ(n:Nat):RP:=((upTo n).reverse,(upTo n).reverse)
def dM(n:Nat)(R:List RP):Nat:=(R.takeWhile fun r=>decide (r=eJ n)).length
def uw(n:Nat)(R:List RP):D:=.tup [.int (dM n R),.lst ((R.drop (dM n R)).map fun p=>D.lst (aK p.1))]
theorem AV{n:Nat}{R:List RP}{i:Nat}(h:∀j<i,R[j]?=some (eJ n))(hs:R[i]?≠some (eJ n)):dM n R=i:=by
 induction R generalizing i with
 |nil=>
  cases i with
  |zero=>rfl
  |succ i=>have:=h 0 (by omega);simp at this
 |cons r R ih=>
  unfold dM
  cases i with
  |zero=>
   have hr:¬r=eJ n:=fun e=>hs (by rw[e];rfl)
   rw[List.takeWhile_cons_of_neg (by simp[hr])]
   rfl
  |succ i=>
   have hr:r=eJ n:=by have:=h 0 (by omega);simpa using this
   rw[List.takeWhile_cons_of_pos (by simp[hr]),length_cons]
   have:=ih (i:=i) (fun j hj=>by have:=h (j+1) (by omega);simpa using this) (by simpa using hs)
   unfold dM at this
   rw[this]
theorem Jv(n:Nat)(R:List RP)(p:RP):(eO n R p).length<=R.length+1:=by
 unfold eO
 split
 ·rw[List.length_dropLast,vo];omega
 ·rw[vo];omega
def vq(r:List Int):List Int:=(upTo r.length).map fun v=>((r.idxOf v:Nat):Int)
theorem oF{n:Nat}{r:List Int}(h:bB n r):Iv n r (vq r):=by
 obtain⟨s,iv⟩:=SE h
 have e:vq r=s:=by
  refine aR (by unfold vq;rw[length_map,ak,iv.lr,iv.ls]) fun j hj=>?_
  have Ce:j<n:=by unfold vq at hj;rwa [length_map,ak,iv.lr]at hj
  have hg:(vq r)[j]?=some ((r.idxOf (j:Int):Nat):Int):=by
   unfold vq
   rw[getElem?_map,oB _ j (by rw[iv.lr];exact Ce)]
   rfl
  rw[<-(iv.idx Ce).2]
  unfold aa
  rw[hg]
  rfl
 rw[e]
 exact iv
def fM(n:Nat)(rs:List (List Int)):List RP:=rs.foldl (fun R r=>eO n R (r,vq r)) []
theorem F8{n:Nat}{rs:List (List Int)}{i:Nat}{r:List Int}(h:rs[i]?=some r):fM n (rs.take (i+1))=eO n (fM n (rs.take i)) (r,vq r):=by
 unfold fM
 rw[take_succ,h,foldl_append]
 rfl
theorem rE(n:Nat):∀(rs:List (List Int))(R:List RP),(rs.foldl (fun R r=>eO n R (r,vq r)) R).length<=R.length+rs.length
 |[],R=>Nat.le_refl _
 |r::rs,R=>by
  have h:=rE n rs (eO n R (r,vq r))
  have h2:=Jv n R (r,vq r)
  rw[foldl_cons,length_cons]
  omega
def O5(n:Nat)(p y:RP):Prop:=∀i j,i<j->j<n->aa y.2 j<aa y.2 i->aa p.1 i<aa p.1 j
def O6(n:Nat)(w q x:RP):Prop:=∀t,t<n->aa w.2 t=aa x.2 (aa q.2 t).toNat
structure uL(n:Nat)(p0 q0 p q y:RP):Prop where
 iy:Iv n y.1 y.2
 pp:O6 n p p0 y
 pq:O6 n q0 y q
 ap:O5 n p0 y
 aq:O5 n y q
 pl:∀t,t<n->aa p.1 t=aa p0.1 (aa y.1 t).toNat
def sw(a t:Nat):Nat:=if t=a then a+1 else if t=a+1 then a else t
theorem wI{a t n:Nat}(ha:a+1<n)(ht:t<n):sw a t<n:=by
 unfold sw
 repeat' split
 all_goals omega
theorem Jw(a:Nat){x:Int}(h:0<=x):sw a (sg a x).toNat=x.toNat:=by
 unfold sg sw
 repeat' split
 all_goals omega
theorem dm{l:List Int}{a:Nat}(h:a+1<l.length)(t:Nat):aa (cK l a) t=aa l (sw a t):=by
 rw[bx _ _ h]
 unfold sw
 repeat' split
 all_goals rfl
theorem uL.start {n:Nat}{p q:RP}(ip:Iv n p.1 p.2)(hi:Iv n (upTo n) (upTo n)):uL n p q p q (upTo n,upTo n):=by
 have c:∀t,t<n->(aa (upTo n) t).toNat=t:=fun t ht=>by rw[ao ht];exact toNat_natCast t
 refine⟨hi,fun t ht=>?_,fun t ht=>?_,fun i j hij hj h=>?_,fun i j hij hj h=>?_,fun t ht=>?_⟩
 ·obtain⟨h1,h2,_⟩:=ip.sr t ht
  show _=aa (upTo n) (aa p.2 t).toNat
  rw[ao (by omega)]
  omega
 ·show _=aa q.2 (aa (upTo n) t).toNat
  rw[c t ht]
 ·dsimp only at h
  rw[ao hj,ao (by omega)]at h
  omega
 ·dsimp only
  rw[ao hj,ao (by omega)]
  omega
 ·show _=aa p.1 (aa (upTo n) t).toNat
  rw[c t ht]
theorem uL.step {n:Nat}{p0 q0 p q y:RP}(o:uL n p0 q0 p q y)(zU:Iv n p0.1 p0.2)(ip:Iv n p.1 p.2)(iq:Iv n q.1 q.2){j:Nat}(hj:j+1<n)(hup:aa p.1 j<aa p.1 (j+1))(hdn:aa q.2 (j+1)<aa q.2 j):uL n p0 q0 (nv p j) (qB q j) (nv y j):=by
 have iy:=o.iy
 refine⟨bQ iy hj,fun t ht=>?_,fun t ht=>?_,fun i i' Ug xW h=>?_,fun i i' Ug xW h=>?_,fun t ht=>?_⟩
 ·obtain⟨h1,h2,_⟩:=zU.sr t ht
  show aa (qz p.2 j) t=aa (qz y.2 j) (aa p0.2 t).toNat
  rw[bg (by rw[ip.ls];exact ht),bg (by rw[iy.ls];omega),o.pp t ht]
 ·obtain⟨h1,h2,_⟩:=iy.sr t ht
  show aa q0.2 t=aa (cK q.2 j) (aa (qz y.2 j) t).toNat
  rw[bg (by rw[iy.ls];exact ht),dm (by rw[iq.ls];exact hj),Jw j h1,o.pq t ht]
 ·have h':aa (qz y.2 j) i'<aa (qz y.2 j) i:=h
  rw[bg (by rw[iy.ls];exact xW),bg (by rw[iy.ls];omega)]at h'
  by_cases hb:aa y.2 i'<aa y.2 i
  ·exact o.ap i i' Ug xW hb
  ·obtain⟨a1,a2,a3⟩:=iy.sr i (by omega)
   obtain⟨b1,b2,b3⟩:=iy.sr i' xW
   have hne:aa y.2 i≠aa y.2 i':=fun e=>by
    have:=iy.GR (v:=i) (w:=i') (by omega) xW e
    omega
   have hab:aa y.2 i=j/\aa y.2 i'=j+1:=by
    unfold sg at h'
    repeat' split at h'
    all_goals omega
   have e1:=o.pl j (by omega)
   have e2:=o.pl (j+1) hj
   rw[hab.1,toNat_natCast]at a3
   rw[hab.2,show((j:Int)+1).toNat=j+1 by omega]at b3
   rw[a3,toNat_natCast]at e1
   rw[b3,toNat_natCast]at e2
   omega
 ·have h':aa (cK q.2 j) i'<aa (cK q.2 j) i:=h
  show aa (cK y.1 j) i<aa (cK y.1 j) i'
  rw[dm (by rw[iq.ls];exact hj),dm (by rw[iq.ls];exact hj)]at h'
  rw[dm (by rw[iy.lr];exact hj),dm (by rw[iy.lr];exact hj)]
  by_cases hc:i=j/\i'=j+1
  ·obtain⟨rfl,rfl⟩:=hc
   unfold sw at h'
   rw[if_pos rfl,if_neg (by omega),if_pos rfl]at h'
   omega
  ·refine o.aq (sw j i) (sw j i') ?_ (wI hj xW) h'
   unfold sw
   repeat' split
   all_goals omega
 ·obtain⟨h1,h2,_⟩:=iy.rs (sw j t) (wI hj ht)
  show aa (cK p.1 j) t=aa p0.1 (aa (cK y.1 j) t).toNat
  rw[dm (by rw[ip.lr];exact hj),dm (by rw[iy.lr];exact hj),o.pl _ (wI hj ht)]
theorem DZ{n:Nat}{p0 q0:RP}(zU:Iv n p0.1 p0.2):∀(f:Nat)(p q y:RP),Iv n p.1 p.2->Iv n q.1 q.2->uL n p0 q0 p q y->∃y',uL n p0 q0 (cJ f p q).1 (cJ f p q).2 y'
 |0,p,q,y,_,_,o=>⟨y,o⟩
 |f+1,p,q,y,ip,iq,o=>by
  cases h:(km p q).getLast? with
  |none=>rw[lX _ h];exact⟨y,o⟩
  |some k=>
   obtain⟨j,rfl,hj,h1,h2⟩:=mG ip iq (mem_of_getLast? h)
   rw[lW f h,show((j:Int)+1-1).toNat=j by omega]
   exact DZ zU f _ _ _ (bQ ip hj) (dY iq hj) (o.step zU ip iq hj h1 h2)
theorem vv{n:Nat}(hn:n<=7):∀(f:Nat)(p q:RP),Iv n p.1 p.2->Iv n q.1 q.2->49<f+fU p.1->km (cJ f p q).1 (cJ f p q).2=[]
 |0,p,q,ip,iq,h=>by have:=tJ hn ip;omega
 |f+1,p,q,ip,iq,h=>by
  cases hk:(km p q).getLast? with
  |none=>
   rw[lX _ hk]
   exact List.getLast?_eq_none_iff.mp hk
  |some k=>
   obtain⟨j,rfl,hj,h1,h2⟩:=mG ip iq (mem_of_getLast? hk)
   rw[lW f hk,show((j:Int)+1-1).toNat=j by omega]
   have:=Js ip hj h1
   exact vv hn f _ _ (bQ ip hj) (dY iq hj) (by omega)
theorem O6.calm {n:Nat}{w q x:RP}(hp:O6 n w q x)(iq:Iv n q.1 q.2)(ix:Iv n x.1 x.2)(ad:O5 n q x){i j:Nat}(hij:i<=j)(hj:j<n)(h:aa w.2 i<=aa w.2 j):aa q.2 i<=aa q.2 j:=by
 refine byContradiction fun hc=>?_
 obtain⟨a1,a2,a3⟩:=iq.sr i (by omega)
 obtain⟨b1,b2,b3⟩:=iq.sr j hj
 rw[hp i (by omega),hp j hj]at h
 have hne:(aa q.2 j).toNat<(aa q.2 i).toNat:=by omega
 have hx:aa x.2 (aa q.2 i).toNat≠aa x.2 (aa q.2 j).toNat:=fun e=>by
  have:=ix.GR (v:=(aa q.2 i).toNat) (w:=(aa q.2 j).toNat) (by omega) (by omega) e
  omega
 have:=ad (aa q.2 j).toNat (aa q.2 i).toNat hne (by omega) (by omega)
 rw[a3,b3]at this
 omega
theorem cR{p q:RP}{n:Nat}(ip:Iv n p.1 p.2)(iq:Iv n q.1 q.2):km p q=[]↔∀j,j+1<n->aa q.2 (j+1)<aa q.2 j->aa p.1 (j+1)<aa p.1 j:=by
 constructor
 ·intro h j hj hd
  refine byContradiction fun hc=>?_
  have hm:((j:Int)+1)∈km p q:=by
   unfold km
   rw[mem_filter]
   refine⟨rB.mpr ⟨j,rfl,by rw[iq.ls];exact hj,hd⟩,?_⟩
   have:((j:Int)+1)∉zS p.1:=fun z=>by
    obtain⟨a,e,_,h2⟩:=rB.mp z
    have:a=j:=by omega
    subst this
    exact hc h2
   rw[decide_eq_false this]
   rfl
  rw[h]at hm
  cases hm
 ·intro h
  cases e:km p q with
  |nil=>rfl
  |cons k t=>
   obtain⟨j,_,hj,h1,h2⟩:=mG ip iq (k:=k) (by rw[e];exact mem_cons_self)
   have:=h j hj h2
   omega
theorem switch(f:Nat->Bool):∀(d u:Nat),f u=false->f (u+d)=true->∃i,u<=i/\i<u+d/\f i=false/\f (i+1)=true
 |0,u,h1,h2=>by rw[Nat.add_zero,h1]at h2;cases h2
 |d+1,u,h1,h2=>by
  cases h:f (u+d)with
  |true=>
   obtain⟨i,a,b,c,e⟩:=switch f d u h1 h
   exact⟨i,a,by omega,c,e⟩
  |false=>exact⟨u+d,by omega,by omega,h,h2⟩
theorem SV{n:Nat}{r q x s' w y w2 s:RP}(ir:Iv n r.1 r.2)(iq:Iv n q.1 q.2)(ix:Iv n x.1 x.2)(is':Iv n s'.1 s'.2)(iw:Iv n w.1 w.2)(iy:Iv n y.1 y.2)(ML:Iv n w2.1 w2.2)
  (hrq:km r q=[])(hws:km w s'=[])(hw:O6 n w q x)(aqx:O5 n q x)(axs:O5 n x s')(O7:O6 n w y w2)(ayw:O5 n y w2)(ary:O5 n r y):km w2 s'=[]:=by
 refine(cR ML is').mpr fun j hj hd=>byContradiction fun hc=>?_
 have hstop:=(cR iw is').mp hws j hj hd
 obtain⟨v0,v1,v2⟩:=iw.rs j (by omega)
 obtain⟨u0,u1,u2⟩:=iw.rs (j+1) hj
 generalize hv:(aa w.1 j).toNat=v at*
 generalize hu:(aa w.1 (j+1)).toNat=u at*
 have huv:u<v:=by omega
 have hy:aa y.2 v<aa y.2 u:=by
  refine byContradiction fun hz=>?_
  obtain⟨a1,a2,a3⟩:=iy.sr u (by omega)
  obtain⟨b1,b2,b3⟩:=iy.sr v (by omega)
  have e1:=O7 u (by omega)
  have e2:=O7 v (by omega)
  rw[u2]at e1
  rw[v2]at e2
  obtain⟨c1,c2,c3⟩:=ML.sr (aa y.2 u).toNat (by omega)
  obtain⟨d1,d2,d3⟩:=ML.sr (aa y.2 v).toNat (by omega)
  rw[<-e1,show(((j+1:Nat):Int)).toNat=j+1 by omega]at c3
  rw[<-e2,toNat_natCast]at d3
  have hne:aa y.2 u≠aa y.2 v:=fun e=>by
   have:=iy.GR (v:=u) (w:=v) (by omega) (by omega) e
   omega
  omega
 have hq:aa q.2 v<aa q.2 u:=by
  refine byContradiction fun hz=>?_
  obtain⟨a1,a2,a3⟩:=iq.sr u (by omega)
  obtain⟨b1,b2,b3⟩:=iq.sr v (by omega)
  have e1:=hw u (by omega)
  have e2:=hw v (by omega)
  rw[u2]at e1
  rw[v2]at e2
  have:=axs j (j+1) (by omega) hj hd
  obtain⟨c1,c2,c3⟩:=ix.sr (aa q.2 u).toNat (by omega)
  obtain⟨d1,d2,d3⟩:=ix.sr (aa q.2 v).toNat (by omega)
  rw[<-e1,show(((j+1:Nat):Int)).toNat=j+1 by omega]at c3
  rw[<-e2,toNat_natCast]at d3
  have hne:aa q.2 u≠aa q.2 v:=fun e=>by
   have:=iq.GR (v:=u) (w:=v) (by omega) (by omega) e
   omega
  omega
 obtain⟨i,i1,i2,i3,i4⟩:=switch (fun t=>decide (aa w.2 t<=j)) (v-u) u (by rw[decide_eq_false];omega) (by rw[show u+(v-u)=v by omega,decide_eq_true];omega)
 have i3':=of_decide_eq_false i3
 have i4':=of_decide_eq_true i4
 have y1:=O7.calm iy ML ayw (i:=u) (j:=i) i1 (by omega) (by omega)
 have y2:=O7.calm iy ML ayw (i:=i+1) (j:=v) (by omega) (by omega) (by omega)
 have q1:=hw.calm iq ix aqx (i:=u) (j:=i) i1 (by omega) (by omega)
 have q2:=hw.calm iq ix aqx (i:=i+1) (j:=v) (by omega) (by omega) (by omega)
 have hr:=(cR ir iq).mp hrq i (by omega) (by omega)
 have:=ary i (i+1) (by omega) (by omega) (by omega)
 omega
def ux:List RP->Prop
 |q::p::ps=>km p q=[]/\ux (p::ps)
 |_=>True
def aW(n:Nat)(R:List RP):Prop:=∀x∈R,Iv n x.1 x.2
theorem ux.tail {q:RP}{R:List RP}(h:ux (q::R)):ux R:=by
 cases R with
 |nil=>trivial
 |cons p ps=>exact h.2
structure SW(n:Nat)(p c p' c':RP):Prop where
 ip:Iv n p'.1 p'.2
 ic:Iv n c'.1 c'.2
 fr:km p' c'=[]
 ex:∃y,uL n p c p' c' y
theorem fV{n:Nat}(hn:n<=7){p c:RP}(ip:Iv n p.1 p.2)(ic:Iv n c.1 c.2)(hi:Iv n (upTo n) (upTo n)):SW n p c (cJ 50 p c).1 (cJ 50 p c).2:=
 ⟨(hU.wH 50 ip ic).1,(hU.wH 50 ip ic).2,vv hn 50 p c ip ic (by omega),DZ ip 50 p c _ ip ic (uL.start ip hi)⟩
theorem SW.none {n:Nat}{p c p' c':RP}(s:SW n p c p' c')(ic:Iv n c.1 c.2)(ip:Iv n p.1 p.2)(e:p'=p):c'=c:=by
 obtain⟨y,o⟩:=s.ex
 subst e
 have hy:∀t,t<n->aa y.2 t=t:=fun t ht=>by
  have h1:=ip.rs t ht
  have:=o.pp (aa p'.1 t).toNat (by omega)
  rw[h1.2.2,toNat_natCast]at this
  exact this.symm
 refine jz (n:=n) s.ic ic ?_
 refine Iv.uniq (n:=n) (s:=c.2) ?_ ic
 have:c'.2=c.2:=aR (by rw[s.ic.ls,ic.ls]) fun t ht=>by
  rw[s.ic.ls]at ht
  rw[o.pq t ht,hy t ht,toNat_natCast]
 rw[<-this]
 exact s.ic
theorem Jy{n:Nat}(hn:n<=7)(hi:Iv n (upTo n) (upTo n)):∀(ps:List RP)(p c:RP),aW n (p::ps)->Iv n c.1 c.2->ux (p::ps)->ux ((cJ 50 p c).2::uK ps (cJ 50 p c).1)
 |[],p,c,hI,ic,_=>by
  have s:=fV hn (hI p (by simp)) ic hi
  exact⟨s.fr,trivial⟩
 |r::ps,p,c,hI,ic,hL=>by
  have ip:=hI p (by simp)
  have ir:=hI r (by simp)
  have s:=fV hn ip ic hi
  have s2:=fV hn ir s.ip hi
  unfold uK
  by_cases e:(cJ 50 r (cJ 50 p c).1).1=r
  ·rw[if_pos e]
   have e2:=s2.none s.ip ir e
   have f2:=s2.fr
   rw[e,e2]at f2
   exact⟨s.fr,f2,hL.2⟩
  ·rw[if_neg e]
   refine⟨?_,Jy hn hi ps r _ (fun x hx=>hI x (mem_cons_of_mem _ hx)) s.ip hL.2⟩
   obtain⟨x,o⟩:=s.ex
   obtain⟨y,o2⟩:=s2.ex
   exact SV (s:=c) ir ip o.iy s.ic s.ip o2.iy s2.ic hL.1 s.fr o.pp o.ap o.aq o2.pq o2.aq o2.ap
theorem SX{n:Nat}(hn:n<=7)(hi:Iv n (upTo n) (upTo n)){R:List RP}{c:RP}(hI:aW n R)(ic:Iv n c.1 c.2)(hL:ux R.reverse):ux (uK R.reverse c):=by
 cases h:R.reverse with
 |nil=>exact trivial
 |cons p ps=>
  rw[h]at hL
  have La:aW n (p::ps):=fun x hx=>hI x (by rw[<-mem_reverse,h];exact hx)
  have s:=fV hn (La p (by simp)) ic hi
  unfold uK
  by_cases e:(cJ 50 p c).1=p
  ·rw[if_pos e]
   have e2:=s.none ic (La p (by simp)) e
   have f:=s.fr
   rw[e,e2]at f
   exact⟨f,hL⟩
  ·rw[if_neg e]
   exact Jy hn hi ps p c La ic hL
def Lb(n:Nat)(p:RP):Prop:=∃a,a+1<n/\aa p.2 (a+1)<aa p.2 a
theorem vx{n:Nat}{p:RP}(ip:Iv n p.1 p.2)(hi:Iv n (upTo n) (upTo n))(h:¬Lb n p):p=(upTo n,upTo n):=
 jz (n:=n) ip hi (MF ip fun a ha hd=>h ⟨a,ha,hd⟩)
theorem Jz{n:Nat}{p:RP}(h:Lb n p):p≠(upTo n,upTo n):=fun e=>by
 obtain⟨a,ha,hd⟩:=h
 rw[e]at hd
 dsimp only at hd
 rw[ao ha,ao (by omega)]at hd
 omega
theorem O6.Z1 {n:Nat}{w q x:RP}(hp:O6 n w q x)(iq:Iv n q.1 q.2)(ix:Iv n x.1 x.2)(ad:O5 n q x){a:Nat}(ha:a+1<n)(h:aa q.2 (a+1)<aa q.2 a):aa w.2 (a+1)<aa w.2 a:=by
 refine byContradiction fun hc=>?_
 have:=hp.calm iq ix ad (i:=a) (j:=a+1) (by omega) ha (by omega)
 omega
theorem JA{n:Nat}(hn:n<=7)(hi:Iv n (upTo n) (upTo n)):∀(ps:List RP)(p c:RP),aW n (p::ps)->Iv n c.1 c.2->ux (p::ps)->(∀x∈p::ps,Lb n x)->∀x∈uK ps (cJ 50 p c).1,Lb n x
 |[],p,c,hI,ic,_,hN,x,hx=>by
  have s:=fV hn (hI p (by simp)) ic hi
  obtain⟨y,o⟩:=s.ex
  obtain⟨a,ha,hd⟩:=hN p (by simp)
  rw[mem_singleton.mp hx]
  exact⟨a,ha,o.pp.Z1 (hI p (by simp)) o.iy o.ap ha hd⟩
 |r::ps,p,c,hI,ic,hL,hN,x,hx=>by
  have ip:=hI p (by simp)
  have ir:=hI r (by simp)
  have s:=fV hn ip ic hi
  have s2:=fV hn ir s.ip hi
  obtain⟨z,o⟩:=s.ex
  obtain⟨y,o2⟩:=s2.ex
  obtain⟨a,ha,hd⟩:=hN p (by simp)
  have Ln:=o.pp.Z1 ip o.iy o.ap ha hd
  unfold uK at hx
  by_cases e:(cJ 50 r (cJ 50 p c).1).1=r
  ·rw[if_pos e]at hx
   rcases mem_cons.mp hx with rfl|hx
   ·exact⟨a,ha,Ln⟩
   ·exact hN x (mem_cons_of_mem _ hx)
  ·rw[if_neg e]at hx
   rcases mem_cons.mp hx with rfl|hx
   ·refine byContradiction fun hc=>?_
    have e2:=vx s2.ic hi hc
    have hy:∀t,t<n->aa (cJ 50 p c).1.2 t=aa y.2 t:=fun t ht=>by
     have h1:=o2.iy.sr t ht
     have:=o2.pq t ht
     rw[e2]at this
     dsimp only at this
     rw[ao (by omega)]at this
     omega
    rw[hy _ ha,hy _ (by omega)]at Ln
    have h1:=o2.ap a (a+1) (by omega) ha Ln
    have h2:=(cR ir ip).mp hL.1 a ha hd
    omega
   ·exact JA hn hi ps r _ (fun x hx=>hI x (mem_cons_of_mem _ hx)) s.ip hL.2 (fun x hx=>hN x (mem_cons_of_mem _ hx)) x hx
structure oG(n:Nat)(R:List RP):Prop where
 iv:aW n R
 lw:ux R.reverse
 ns:∀x∈R,Lb n x
theorem zo{n:Nat}:∀(R:List RP)(p:RP),(∀x∈R,Iv n x.1 x.2)->Iv n p.1 p.2->∀x∈uK R p,Iv n x.1 x.2
 |[],p,_,hp,x,hx=>by rw[mem_singleton.mp hx];exact hp
 |r::R,p,hR,hp,x,hx=>by
  obtain⟨i1,i2⟩:=hU.wH 50 (hR r (by simp)) hp
  unfold uK at hx
  split at hx
  ·rcases mem_cons.mp hx with rfl|hx
   ·exact hp
   ·exact hR x hx
  ·rcases mem_cons.mp hx with rfl|hx
   ·exact i2
   ·exact zo R _ (fun y hy=>hR y (by simp[hy])) i1 x hx
theorem JB{n:Nat}(hn:n<=7)(hi:Iv n (upTo n) (upTo n)){R:List RP}{c:RP}(h:oG n R)(ic:Iv n c.1 c.2):∃d T,uK R.reverse c=d::T/\∀x∈T,Lb n x:=by
 cases hr:R.reverse with
 |nil=>exact⟨c,[],rfl,fun x hx=>nomatch hx⟩
 |cons p ps=>
  have La:aW n (p::ps):=fun x hx=>h.iv x (by rw[<-mem_reverse,hr];exact hx)
  have hN':∀x∈p::ps,Lb n x:=fun x hx=>h.ns x (by rw[<-mem_reverse,hr];exact hx)
  have hL:=h.lw
  rw[hr]at hL
  unfold uK
  by_cases e:(cJ 50 p c).1=p
  ·rw[if_pos e]
   exact⟨c,p::ps,rfl,hN'⟩
  ·rw[if_neg e]
   exact⟨_,_,rfl,JA hn hi ps p c La ic hL hN'⟩
theorem Cr{n:Nat}(hn:n<=7)(hi:Iv n (upTo n) (upTo n)){R:List RP}{c:RP}(h:oG n R)(ic:Iv n c.1 c.2):oG n (eO n R c):=by
 have Z2:=SX hn hi h.iv ic h.lw
 have Uh:=zo R.reverse c (fun x hx=>h.iv x (by simpa using hx)) ic
 obtain⟨d,T,e,hT⟩:=JB hn hi h ic
 have Wf:(rD R c).getLast?=some d:=by unfold rD;rw[e];simp
 have Wg:(rD R c).dropLast=T.reverse:=by unfold rD;rw[e];simp
 unfold eO
 rw[Wf]
 by_cases hd:some d=some (upTo n,upTo n)
 ·rw[if_pos hd,Wg]
  rw[e]at Z2 Uh
  exact⟨fun x hx=>Uh x (mem_cons_of_mem _ (by simpa using hx)),by rw[reverse_reverse];exact Z2.tail,fun x hx=>hT x (by simpa using hx)⟩
 ·rw[if_neg hd]
  unfold rD
  refine⟨fun x hx=>Uh x (by simpa using hx),by rw[reverse_reverse];exact Z2,fun x hx=>?_⟩
  rw[mem_reverse,e]at hx
  rcases mem_cons.mp hx with rfl|hx
  ·refine byContradiction fun hc=>hd ?_
   rw[vx (Uh x (by rw[e];exact mem_cons_self)) hi hc]
  ·exact hT x hx
theorem D0{n:Nat}(hn:n<=7)(hi:Iv n (upTo n) (upTo n)):∀(rs:List (List Int))(R:List RP),(∀r∈rs,bB n r)->oG n R->oG n (rs.foldl (fun R r=>eO n R (r,vq r)) R)
 |[],R,_,h=>h
 |r::rs,R,hr,h=>D0 hn hi rs _ (fun x hx=>hr x (by simp[hx])) (Cr hn hi h (oF (hr r (by simp))))
theorem tM{n:Nat}{r s:List Int}(h:Iv n r s)(hd:∀j,j+1<n->aa r (j+1)<aa r j):r=(upTo n).reverse:=by
 have up:∀j,j<n->aa r j<=(n:Int)-1-j:=fun j=>by
  induction j with
  |zero=>intro h0;have:=(h.rs 0 h0).2.1;omega
  |succ j ih=>intro hj;have:=ih (by omega);have:=hd j hj;omega
 have dn:∀d j,j+d+1=n->(d:Int)<=aa r j:=fun d=>by
  induction d with
  |zero=>intro j hj;exact(h.rs j (by omega)).1
  |succ d ih=>intro j hj;have:=ih (j+1) (by omega);have:=hd j (by omega);omega
 refine aR (by rw[h.lr,length_reverse,ak]) fun j hj=>?_
 rw[h.lr]at hj
 have h1:=up j hj
 have h2:=dn (n-1-j) j (by omega)
 have h3:aa (upTo n).reverse j=((n-1-j:Nat):Int):=by
  unfold aa
  rw[getElem?_reverse (by rw[ak];exact hj),ak,oB n _ (by omega)]
  rfl
 omega
theorem Cs{n:Nat}{p:RP}(ip:Iv n p.1 p.2)(hh:Iv n (eJ n).1 (eJ n).2)(h:km p (eJ n)=[]):p=eJ n:=by
 refine jz (n:=n) ip hh (tM ip fun j hj=>(cR ip hh).mp h j hj ?_)
 have c:∀p,p<n->aa (upTo n).reverse p=((n-1-p:Nat):Int):=fun p hp=>by
  unfold aa
  rw[getElem?_reverse (by rw[ak];exact hp),ak,oB n _ (by omega)]
  rfl
 show aa (upTo n).reverse (j+1)<aa (upTo n).reverse j
 rw[c _ hj,c _ (by omega)]
 omega
theorem ux.at_:∀{l A B:List RP}{p q:RP},ux l->l=A++q::p::B->km p q=[]
 |_,[],B,p,q,h,e=>by rw[e]at h;exact h.1
 |l,a::A,B,p,q,h,e=>by
  rw[e,cons_append]at h
  exact ux.at_ h.tail rfl
theorem oG.nb {n:Nat}{R A B:List RP}{p q:RP}(h:oG n R)(e:R=A++p::q::B):km p q=[]:=
 h.lw.at_ (A:=B.reverse) (B:=A.reverse) (by rw[e];simp)
theorem D1{n:Nat}(hh:Iv n (eJ n).1 (eJ n).2){R:List RP}(h:oG n R):∀(B A:List RP)(p:RP),R=A++p::B->p≠eJ n->∀x∈p::B,x≠eJ n
 |[],A,p,e,hp,x,hx=>by rw[mem_singleton.mp hx];exact hp
 |q::B,A,p,e,hp,x,hx=>by
  have ip:=h.iv p (by rw[e];simp)
  have hq:q≠eJ n:=fun z=>by
   have:=h.nb e
   rw[z]at this
   exact hp (Cs ip hh this)
  rcases mem_cons.mp hx with rfl|hx
  ·exact hp
  ·exact D1 hh h B (A++[p]) q (by rw[e];simp) hq x hx
theorem wJ{n:Nat}(R:List RP):R=replicate (dM n R) (eJ n)++R.drop (dM n R):=by
 unfold dM
 induction R with
 |nil=>rfl
 |cons p R ih=>
  by_cases h:p=eJ n
  ·rw[List.takeWhile_cons_of_pos (by simpa using h),length_cons,replicate_succ,List.drop_succ_cons,cons_append,<-ih,h]
  ·rw[List.takeWhile_cons_of_neg (by simpa using h)]
   rfl
theorem AW{n:Nat}(R:List RP):∀p B,R.drop (dM n R)=p::B->p≠eJ n:=by
 unfold dM
 induction R with
 |nil=>intro p B h;cases h
 |cons q R ih=>
  intro p B h
  by_cases hq:q=eJ n
  ·rw[List.takeWhile_cons_of_pos (by simpa using hq),length_cons,List.drop_succ_cons]at h
   exact ih p B h
  ·rw[List.takeWhile_cons_of_neg (by simpa using hq)]at h
   have:q=p:=(List.cons.inj h).1
   rw[<-this];exact hq
theorem F9{n:Nat}(hh:Iv n (eJ n).1 (eJ n).2){R:List RP}(h:oG n R):∀x∈R.drop (dM n R),x≠eJ n:=fun x hx=>by
 cases e:R.drop (dM n R)with
 |nil=>rw[e]at hx;cases hx
 |cons p B=>
  rw[e]at hx
  exact D1 hh h B (replicate (dM n R) (eJ n)) p (by rw[<-e];exact wJ R) (AW R p B e) x hx
def cmp(o r:List Int):List Int:=r.map fun s=>aa o s.toNat
def xX(o:List Int)(R:List (List Int)):List Int:=R.foldl cmp o
def jL(R:List (List Int)):Nat:=(R.map fU).sum
theorem dB{o r:List Int}{t:Nat}(h:t<r.length):aa (cmp o r) t=aa o (aa r t).toNat:=by
 unfold cmp
 have:=cP h
 unfold aa at this⊢
 rw[getElem?_map,this]
 rfl
theorem mH(o:List Int)(a b:List (List Int)):xX o (a++b)=xX (xX o a) b:=foldl_append
theorem rF(a b:List (List Int)):jL (a++b)=jL a+jL b:=by unfold jL;rw[map_append,sum_append]
theorem D2{n:Nat}{o r q s:List Int}(iq:Iv n q s)(hr:r.length=n):cmp (cmp o r) q=cmp o (cmp r q):=by
 refine aR (by unfold cmp;simp) fun t ht=>?_
 have GJ:t<q.length:=by unfold cmp at ht;simpa using ht
 have h1:=iq.rs t (by rw[<-iq.lr];exact GJ)
 rw[dB GJ,dB (by rw[hr];omega),dB (by unfold cmp;simpa using GJ),dB GJ]
theorem uL.prd {n:Nat}{p0 q0 p q y:RP}(o:uL n p0 q0 p q y)(Ga:Iv n q0.1 q0.2)(zU:Iv n p0.1 p0.2)(ip:Iv n p.1 p.2)(iq:Iv n q.1 q.2):cmp p.1 q.1=cmp p0.1 q0.1:=by
 refine aR (by unfold cmp;simp[iq.lr,Ga.lr]) fun t ht=>?_
 have GJ:t<n:=by unfold cmp at ht;rw[length_map,iq.lr]at ht;exact ht
 rw[dB (by rw[iq.lr];exact GJ),dB (by rw[Ga.lr];exact GJ)]
 obtain⟨a1,a2,a3⟩:=iq.rs t GJ
 obtain⟨b1,b2,b3⟩:=Ga.rs t GJ
 obtain⟨c1,c2,c3⟩:=o.iy.rs (aa q.1 t).toNat (by omega)
 rw[o.pl _ (by omega)]
 have h1:=o.pq (aa y.1 (aa q.1 t).toNat).toNat (by omega)
 rw[c3,toNat_natCast,a3]at h1
 have:=Ga.GR (v:=(aa y.1 (aa q.1 t).toNat).toNat) (w:=(aa q0.1 t).toNat) (by omega) (by omega) (by rw[h1,b3])
 rw[this]
theorem zp{n:Nat}{o s:List Int}(h:Iv n o s){a:Nat}(ha:a+1<n):(aa o a<aa o (a+1)->fU (cK o a)=fU o+1)/\(aa o (a+1)<aa o a->fU (cK o a)+1=fU o):=by
 have e:=vk o a [] (by rw[h.lr];exact ha)
 unfold fU
 constructor
 ·intro c
  rw[if_neg (by omega),if_pos c]at e
  omega
 ·intro c
  rw[if_pos c,if_neg (by omega)]at e
  omega
theorem D3{n:Nat}:∀(f:Nat)(p q:RP),Iv n p.1 p.2->Iv n q.1 q.2->fU (cJ f p q).1.1+fU (cJ f p q).2.1=fU p.1+fU q.1
 |0,p,q,_,_=>rfl
 |f+1,p,q,ip,iq=>by
  cases h:(km p q).getLast? with
  |none=>rw[lX _ h]
  |some k=>
   obtain⟨j,rfl,hj,h1,h2⟩:=mG ip iq (mem_of_getLast? h)
   rw[lW f h,show((j:Int)+1-1).toNat=j by omega,D3 f _ _ (bQ ip hj) (dY iq hj)]
   have e1:=(zp ip hj).1 h1
   have e2:=(zp iq.symm hj).2 h2
   have e3:=wF iq
   have e4:=wF (dY iq hj)
   show fU (cK p.1 j)+fU (qB q j).1=_
   have e5:fU (qB q j).2=fU (cK q.2 j):=rfl
   omega
theorem JC{n:Nat}(hn:n<=7)(hi:Iv n (upTo n) (upTo n)){p c:RP}(ip:Iv n p.1 p.2)(ic:Iv n c.1 c.2):cmp (cJ 50 p c).1.1 (cJ 50 p c).2.1=cmp p.1 c.1:=by
 have s:=fV hn ip ic hi
 obtain⟨y,o⟩:=s.ex
 exact o.prd ic ip s.ip s.ic
def fwd(R:List RP):List (List Int):=(R.reverse).map (·.1)
theorem lY(p:RP)(R:List RP):fwd (p::R)=fwd R++[p.1]:=by unfold fwd;simp
theorem D4{n:Nat}(hn:n<=7)(hi:Iv n (upTo n) (upTo n)):∀(R:List RP)(c:RP),aW n R->Iv n c.1 c.2->(∀o,xX o (fwd (uK R c))=xX o (fwd R++[c.1]))/\jL (fwd (uK R c))=jL (fwd R)+fU c.1
 |[],c,_,_=>⟨fun o=>rfl,by unfold uK jL fwd;simp⟩
 |p::ps,c,hI,ic=>by
  have ip:=hI p (by simp)
  have s:=fV hn ip ic hi
  unfold uK
  by_cases e:(cJ 50 p c).1=p
  ·rw[if_pos e]
   exact⟨fun o=>by rw[lY],by rw[lY,rF];simp[jL]⟩
  ·rw[if_neg e]
   obtain⟨h1,h2⟩:=D4 hn hi ps (cJ 50 p c).1 (fun x hx=>hI x (by simp[hx])) s.ip
   refine⟨fun o=>?_,?_⟩
   ·rw[lY,mH,h1 o,lY,List.append_assoc,mH,mH]
    show cmp (cmp (xX o (fwd ps)) (cJ 50 p c).1.1) (cJ 50 p c).2.1=cmp (cmp (xX o (fwd ps)) p.1) c.1
    rw[D2 s.ic s.ip.lr,JC hn hi ip ic,<-D2 ic ip.lr]
   ·rw[lY,rF,h2,lY,rF]
    have:=D3 50 p c ip ic
    have e1:∀r:List Int,jL [r]=fU r:=fun r=>by simp[jL]
    rw[e1,e1]
    omega
theorem MM{n:Nat}(hn:n<=7)(hi:Iv n (upTo n) (upTo n))(c0:fU (upTo n)=0){R:List RP}{c:RP}(hI:aW n R)(ic:Iv n c.1 c.2):(∀o:List Int,o.length=n->xX o ((eO n R c).map (·.1))=xX o (R.map (·.1)++[c.1]))/\jL ((eO n R c).map (·.1))=jL (R.map (·.1))+fU c.1:=by
 have La:aW n R.reverse:=fun x hx=>hI x (by simpa using hx)
 obtain⟨h1,h2⟩:=D4 hn hi R.reverse c La ic
 have ef:fwd (uK R.reverse c)=(rD R c).map (·.1):=rfl
 have er:fwd R.reverse=R.map (·.1):=by unfold fwd;rw[reverse_reverse]
 rw[ef,er]at h2
 unfold eO
 by_cases hd:(rD R c).getLast?=some (upTo n,upTo n)
 ·rw[if_pos hd]
  have hne:rD R c≠[]:=fun z=>by rw[z]at hd;cases hd
  have xE:(rD R c).dropLast++[(upTo n,upTo n)]=rD R c:=by
   have:=List.dropLast_concat_getLast hne
   rw[List.getLast?_eq_some_getLast hne]at hd
   rw[Option.some.inj hd]at this
   exact this
  rw[<-xE,map_append,rF]at h2
  have e1:jL ([((upTo n,upTo n):RP)].map (·.1))=0:=by simp[jL,c0]
  rw[e1]at h2
  refine⟨fun o ho=>?_,h2⟩
  have h3:=h1 o
  rw[ef,er,<-xE,map_append,mH]at h3
  rw[<-h3]
  show _=cmp (xX o ((rD R c).dropLast.map (·.1))) (upTo n)
  have hl:(xX o ((rD R c).dropLast.map (·.1))).length=n:=by
   have Uh:=zo R.reverse c (fun x hx=>hI x (by simpa using hx)) ic
   have ha:∀x∈(rD R c).dropLast,x.1.length=n:=fun x hx=>by
    rw[dropLast_eq_take]at hx
    have:=mem_of_mem_take hx
    unfold rD at this
    exact(Uh x (by simpa using this)).lr
   generalize (rD R c).dropLast=Z at ha
   clear xE h3 h2 h1
   induction Z generalizing o with
   |nil=>exact ho
   |cons z Z ih=>
    refine ih (cmp o z.1) ?_ fun x hx=>ha x (by simp[hx])
    unfold cmp
    rw[length_map]
    exact ha z (by simp)
  refine aR (by unfold cmp;rw[length_map,hl,ak]) fun t ht=>?_
  rw[hl]at ht
  rw[dB (by rw[ak];exact ht),ao ht,toNat_natCast]
 ·rw[if_neg hd]
  exact⟨fun o _=>by have:=h1 o;rw[ef,er]at this;exact this,h2⟩
def tCI(K:PySem.W.Frag)(caps:List Nat)(tl te:TE):TE:=fun σ H Q=>G6 K tl σ H fun J H1=>∃(l:Addr)(xs vs:List V),J=Qm K l/\cX K H1 l xs/\vs.length=caps.length/\(∀(j i:Nat)(v:V),caps[j]?=some i->vs[j]?=some v->σ[i]?=some (some v))/\
 ∀Dd,H1 Dd=none->∃Pv:Nat->List V->Hp->Prop,Pv 0 [] (upd H1 Dd (.lst []))/\(∀i acc Hx,Pv i acc Hx->cX K Hx l xs/\Hx Dd=some (.lst acc))/\
  (∀i acc Hx x,Pv i acc Hx->xs[i]?=some x->te (some x::vs.map some) Hx fun v H2=>H2 Dd=some (.lst acc)/\acc.length<sizeLine/\Pv (i+1) (acc++[v]) (upd H2 Dd (.lst (acc++[v]))))/\∀acc Hx,Pv xs.length acc Hx->Q (.ref Dd) Hx
section
variable{X:Cx}{pos:Pos}{scope:Scope}{N:List Str}{caps:List Nat}
theorem JD{elt tg iter:Expr}{tl te:TE}(S:iP X scope N 1 caps)(Ai:X.calm=true)(hi:PI X tg iter (G6 X.K tl))(hg:∀s H fp C pl,PG (sW X scope N s H fp C pl) tg (G2 0))(he:∀s H fp C pl,PE (sW X scope N s H fp C pl) elt te)
  (hs:∀x,foldedSetIterable iter X.env x=pure x:=by intro _;rfl):PE X (.ListComp elt [⟨tg,iter,[],0⟩] scope pos) (tCI X.K caps tl te):=by
 intro pins s σ H Q I h
 rw[eval_ListComp]
 refine wpAny_comprehension_free (use:=none) rfl hs (p9 (S.cells I)) S.kind S.names ?_
 refine cj (hi pins s σ H (fun J H1=>∃(l:Addr)(xs vs:List V),J=Qm X.K l/\cX X.K H1 l xs/\vs.length=caps.length/\(∀(j i:Nat)(v:V),caps[j]?=some i->vs[j]?=some v->σ[i]?=some (some v))/\
  ∀Dd,H1 Dd=none->∃Pv:Nat->List V->Hp->Prop,Pv 0 [] (upd H1 Dd (.lst []))/\(∀i acc Hx,Pv i acc Hx->cX X.K Hx l xs/\Hx Dd=some (.lst acc))/\
   (∀i acc Hx x,Pv i acc Hx->xs[i]?=some x->te (some x::vs.map some) Hx fun v H2=>H2 Dd=some (.lst acc)/\acc.length<sizeLine/\Pv (i+1) (acc++[v]) (upd H2 Dd (.lst (acc++[v]))))/\∀acc Hx,Pv xs.length acc Hx->Q (.ref Dd) Hx) I ?_) fun v s1 h1=>cj h1 fun itv s2 h2=>?_
 ·exact h
 obtain⟨it,fp,tn,J,H2,rfl,I2,T,K1,f2,l,xs,vs,rfl,hq,Vv,hvs,hinv⟩:=h2
 refine wpAny_newObj_type (wpAny_newFunctionEnv S.cell (by intro y hy;simp at hy) (fun h₁ BZ hsb₁=>?_) S.kind)
 dsimp only at BZ hsb₁⊢
 have QT:H2 s2.heap.objs.size=none:=I2.hok.fresh (Nat.le_refl _)
 have I3:Inv X pins σ (upd H2 s2.heap.objs.size (.lst [])) {s2 with heap:=s2.heap.push {cls:=.type "list",dict:=none,data:=.seq ([]:List Value).toArray}}:=
  I2.laid (t':=s2.toks) (fun b u e=>Heap.get?_push_of_some _ e) (Nat.le_refl _) ⟨zero_le _,[],0,.nil,Heap.get?_push_size _ rfl⟩
 generalize Vw:({s2 with heap:=s2.heap.push {cls:=.type "list",dict:=none,data:=.seq ([]:List Value).toArray}}:Shared)=s3 at I3
 have QU:s3.heap=s2.heap.push {cls:=.type "list",dict:=none,data:=.seq ([]:List Value).toArray}:=by rw[<-Vw]
 rw[<-QU]at BZ hsb₁⊢
 generalize Y9:s2.heap.objs.size=Dd at*
 have k3:∀b o,s3.heap.get? b=some o->h₁.get? b=some o:=fun b o e=>hsb₁.extBut b o (ne_of_lt (Heap.lt_size e)) (Heap.get?_push_of_some _ e)
 have HD:∀b∈fp,∃o,s2.heap.get? b=some o:=fun b hb=>let⟨o,e,_⟩:=T.obj 0 _ K1 b hb;⟨o,e⟩
 have QV:∀b∈fp,∃o,s3.heap.get? b=some o:=fun b hb=>let⟨o,e⟩:=HD b hb;⟨o,by rw[QU];exact Heap.get?_push_of_some _ e⟩
 have Za:∀b∈fp,b≠Dd:=fun b hb=>let⟨o,e⟩:=HD b hb;by rw[<-Y9];exact ne_of_lt (Heap.lt_size e)
 have f3:∀b∈fp,nH X pins (upd H2 Dd (.lst [])) b:=fun b hb=>⟨by rw[ai (Za b hb)];exact(f2 b hb).1,(f2 b hb).2⟩
 have I4:=S.start (t':=s2.toks+([]:List (Str×Value)).length) I3 f3 (Nat.le_refl _) BZ k3 QV Vv (fun j i v e1 e2=>hvs j i v e1 e2) _ rfl
 generalize hX:sW X scope N s3 (upd H2 Dd (.lst [])) fp s3.heap.objs.size (X.pn++pins)=X' at I4
 have Vx:=hg s3 (upd H2 Dd (.lst [])) fp s3.heap.objs.size (X.pn++pins)
 have Vy:=he s3 (upd H2 Dd (.lst [])) fp s3.heap.objs.size (X.pn++pins)
 rw[hX]at Vx Vy
 have eK:X'.K=X.K:=by rw[<-hX];rfl
 have eP:X'.prog=X.prog:=by rw[<-hX];rfl
 have eW:X'.w=X.w:=by rw[<-hX];rfl
 have eA:X'.A=X.A:=by rw[<-hX];rfl
 have eE:X'.xe=fun _ _=>False:=by rw[<-hX];rfl
 have eC:X'.calm=true:=by rw[<-hX];exact Ai
 have eL:X'.env.locals=s3.heap.objs.size:=by rw[<-hX];rfl
 have eS:X'.s₀=s3:=by rw[<-hX];rfl
 have eX:X'.ex=fp:=by rw[<-hX];rfl
 have eF:X'.fs=Bt X.stack:=by rw[<-hX];rfl
 have eN:X'.pn=X.pn++pins:=by rw[<-hX];rfl
 have eH:X'.H₀=upd H2 Dd (.lst []):=by rw[<-hX];rfl
 have eV:X'.env=compEnvC scope (zQ X.env.cells scope.names []) s3.heap.objs.size X.env:=by rw[<-hX];rfl
 have QW:∀{Hx:Hp},(∀b∈fp,Hx b=none)->∀b∈fp,nH X' [] Hx b:=fun{Hx} hn b hb=>by
  obtain⟨_,c1,c2,c3,c4,c5⟩:=f3 b hb
  have q:=I4.ok.Uy b (by rw[eX];exact hb)
  refine⟨hn b hb,q.1,I4.ok.By b (by rw[eX];exact hb),.inl (by rw[eX];exact hb),q.2,fun p hp=>?_⟩
  rw[eN,append_nil]at hp
  exact c5 p hp
 obtain⟨Pv,pv0,pvl,pvs,pvd⟩:=hinv Dd QT
 have loop:∀s4:Shared,Inv X' [] (replicate 1 none++vs.map some) (upd H2 Dd (.lst [])) s4->tn 0 s4.heap->
   codeAny (model X.prog X.w) X.A (.compLoop (.ListComp elt [⟨tg,iter,[],0⟩] scope pos) 0 (.ref it) (.ref Dd) (compEnvC scope (zQ X.env.cells scope.names []) s3.heap.objs.size X.env))
    (compPost (model X.prog X.w) X.A X.xe none (EP X pins σ Q) (.ref Dd) s3.heap.objs.size) s4:=by
  intro s4 J4 HE
  refine uh (fun n s'=>∃(i:Nat)(acc:List V)(Hx:Hp)(t0:Option V),n=xs.length-i/\i<=xs.length/\Inv X' [] (t0::vs.map some) Hx s'/\tn i s'.heap/\(∀b∈fp,Hx b=none)/\Pv i acc Hx) ?_ xs.length
   ⟨0,[],_,none,by simp,zero_le _,J4,HE,fun b hb=>(f3 b hb).1,pv0⟩
  rintro n s5 ⟨i,acc,Hx,t0,rfl,hi5,J5,Lv,K2,p5⟩
  obtain⟨Z3,Vz⟩:=pvl i acc Hx p5
  by_cases hlt:i<xs.length
  ·have hx:xs[i]?=some xs[i]:=getElem?_eq_getElem hlt
   have TI:=T.item X' eP eW eK eC i [] s5 _ Hx (fun _ _=>False) J5 (QW K2) Lv ⟨xs,xs[i],Z3,hx⟩
   rw[eA]at TI
   refine cj TI fun r s6 h6=>?_
   obtain⟨u,rfl,h6⟩:=h6
   refine cj h6 fun _ s7 h7=>?_
   obtain⟨x,H7,J7,rx,⟨rfl,hy⟩,QX,Zd⟩:=h7
   have exi:=hy xs Z3
   have Ze:=J7.pinned (QW Zd) (T.obj _ _ QX)
   have TG:=Vx _ s7 _ H7 x u (fun σ8 H8=>σ8=some x::vs.map some/\H8=H7) Ze rx ⟨rfl,rfl⟩
   rw[eP,eW,eA,eE,eV]at TG
   refine cj TG fun _ s8 h8=>?_
   obtain⟨σ8,H8,J8,rfl,rfl⟩:=h8
   refine cj (wpAny_tests_nil (Q:=fun b s'=>b=true/\s'=s8) ⟨rfl,rfl⟩) fun ok s9 h9=>?_
   obtain⟨rfl,rfl⟩:=h9
   have Dl:∀{σx:St}{Hy:Hp}{sx:Shared},Inv X' ([]++sG fp s7.heap) σx Hy sx->tn (i+1) sx.heap/\∀b∈fp,Hy b=none:=fun{σx Hy sx} Jx=>
    ⟨T.keep _ _ _ QX fun b hb o e=>(Jx.pin (b,o) (mem_append_right _ (mem_append_right _ (iF hb e)))).1,fun b hb=>by
     obtain⟨o,e,d⟩:=T.obj _ _ QX b hb
     exact(Jx.pin (b,o) (mem_append_right _ (mem_append_right _ (iF hb e)))).2.1⟩
   rw[if_pos rfl]
   have TE:=Vy _ s9 _ H8 _ J8 (pvs i acc H8 x p5 exi)
   rw[eP,eW,eA,eE,eV]at TE
   refine cj TE fun y VA Zf=>?_
   obtain⟨v,Aj,Zg,rv,QY,hlen,p10⟩:=Zf
   have TM:=fy (X:=X') _ VA _ Aj (.ref Dd) [v] (.ref Dd) [y] (fun _ T7=>T7=upd Aj Dd (.lst (acc++[v]))) Zg rfl (.cons rv .nil) ⟨Dd,acc,v,rfl,rfl,QY,hlen,rfl⟩
   rw[eP,eW,eA,eE]at TM
   refine cj TM fun _ s11 h11=>?_
   obtain⟨v',T7,VC,_,rfl⟩:=h11
   obtain⟨k1,k2⟩:=Dl VC
   exact⟨xs.length-(i+1),by omega,i+1,acc++[v],_,some x,rfl,hlt,VC.lJ,k1,k2,p10⟩
  ·have e:i=xs.length:=by omega
   subst e
   have TD:=T.done X' eP eW eK eC xs.length [] s5 _ Hx (fun _ _=>False) J5 (QW K2) Lv ⟨xs,Z3,Nat.le_refl _⟩
   rw[eA]at TD
   refine cj TD fun r s6 h6=>?_
   obtain⟨rfl,J6⟩:=h6
   obtain⟨m6,QZ,_⟩:=J6.loc
   rw[eL]at QZ
   have Zi:Un (Bt X.stack) fp (upd H2 Dd (.lst [])) Hx s3.heap s6.heap:=by
    have u:=J6.base
    rw[eF,eX,eH,eS]at u
    exact u
   have hxC:Hx s3.heap.objs.size=none:=by have:=J6.free;rw[eL]at this;exact this
   have Q0:pU X.prog X.w Hx s6.heap:=by
    have z:=J6.hok
    rw[eP,eW]at z
    exact z
   have Zj:s6.os=s3.os:=by have:=J6.os;rw[eS]at this;exact this
   have I6:Inv X pins σ Hx s6:=I3.NQ (s':=s6) Zj Zi Q0 J6.bare fun b hb=>by
    obtain⟨_,c1,c2,c3,c4,c5⟩:=f3 b hb
    exact⟨c3,c1,c4,c5⟩
   have fC:nH X pins Hx s3.heap.objs.size:=⟨hxC,(I3.Fd (Nat.le_refl _) (I3.hok.fresh (Nat.le_refl _))).2⟩
   refine⟨m6,QZ,fun h7 Zk=>⟨.ref Dd,Hx,Ah (fp:=[s3.heap.objs.size]) (t':=s6.toks) I6 (fun b hb=>by
    have z:b=s3.heap.objs.size:=by simpa using hb
    rw[z];exact fC) (fun b u hb e=>(Zk.2 b (fun z=>hb (by simp[z]))).trans e),rfl,pvd acc Hx p5⟩⟩
 have HE:tn 0 h₁:=T.keep _ _ _ K1 fun b hb o e=>k3 b o (by rw[QU];exact Heap.get?_push_of_some _ e)
 have eG:({heap:=h₁,gens:=s3.gens,drawn:=s3.drawn,toks:=s2.toks+([]:List (Str×Value)).length,os:=s3.os}:Shared)={heap:=h₁,gens:=s2.gens,drawn:=s2.drawn,toks:=s2.toks+([]:List (Str×Value)).length,os:=s2.os}:=by rw[<-Vw]
 rw[eG]at I4
 exact codeAny_compStart_list (loop _ I4 HE) (T.self _ 0 _ _ _ HE (loop _ I4 HE))
end
def jT(env:DE):R Bool:=
 R.ok true
def jU(env:DE):R D:=
 (R.bind (bG 0 env) fun kj=>R.bind (R.ok (D.int 0)) fun gz=>sU kj gz)
def D5(env:DE):R Out:=
 (R.bind (R.bind (R.bind (R.bind (R.bind (R.bind (bG 4 env) fun v6=>R.bind (R.ok (D.int 0)) fun v7=>sU v6 v7) fun v4=>R.bind (R.bind (R.bind (R.bind (bG 1 env) vR) fun v9=>R.bind (jk env []) fun v10=>R.bind (R.ne (dN (bN 0) jT jU (lI 1 v10) v9)) fit) fun v8=>R.of (yk v8)) fun v5=>R.of (eu v4 v5)) fun v2=>R.bind (R.bind (R.bind (bG 4 env) fun lN=>R.bind (R.ok (D.int 1)) fun kL=>sU lN kL) fun lu=>R.bind (R.ok []) fun lM=>R.ok (lu::lM)) fun v3=>R.ok (v2::v3)) fit) fun ds=>R.ok (D.tup ds)) fun v1=>R.ok (Out.rt v1))
def dR(ds:List D):R D:=match ds with
 |[.int n,d]=>R.ne (R.bind (bf [d]) fun rs=> @ite _ ((1<=n/\n<=7)/\rs.length<=40/\∀r∈rs,bB n.toNat r) (propDecidable _) (R.bind (D5 [.val (.int n),.val d,.no,.no,.val (uw n.toNat (fM n.toNat rs))]) ah) .bad)
 |_=>.bad
def JE(env:DE):R Out:=
 (R.bind (R.bind (R.bind (bG 0 env) fun v2=>R.bind (R.bind (R.bind (R.bind (bG 0 env) fun v6=>R.bind (R.bind (bG 1 env) fun v8=>R.bind (R.ok []) fun v9=>R.ok (v8::v9)) fun v7=>R.ok (v6::v7)) dQ) fun v4=>R.bind (R.ok []) fun v5=>R.ok (v4::v5)) fun v3=>R.ok (v2::v3)) dR) fun v1=>R.ok (Out.rt v1))
def gR:=mD 2 2 JE
def JF(env:DE):R Out:=
 (R.bind (R.bind (R.bind (R.bind (bG 0 env) fun v4=>R.bind (R.bind (bG 1 env) fun v6=>R.bind (R.ok []) fun v7=>R.ok (v6::v7)) fun v5=>R.ok (v4::v5)) gR) fun v2=>R.bind (R.bind (R.bind (bG 0 env) fun v8=>R.bind (R.bind (bG 2 env) fun v10=>R.bind (R.ok []) fun v11=>R.ok (v10::v11)) fun v9=>R.ok (v8::v9)) gR) fun v3=>R.of (uk v2 v3)) fun v1=>R.ok (Out.rt v1))
def qC:=mS 3 3 JF
def O8(env:DE):R Out:=
 (aV (R.bind (R.bind (R.bind (R.bind (aX 0 env) fun v5=>R.bind (R.bind (R.ok (D.int 0)) fun v7=>R.bind (R.ok []) fun v8=>R.ok (v7::v8)) fun v6=>R.ok (v5::v6)) dz) fun v3=>R.bind (R.bind (R.ok (D.int 10)) fun v9=>R.bind (R.ok (D.int 9)) fun v10=>R.of (Hw v9 v10)) fun v4=>R.of (nT v3 v4)) fun v2=>R.ok (Out.nx (List.set env 1 (Sl.val v2)))) fun v1=>
 (aV (R.bind (R.bind (R.bind (aX 1 v1) fun kj=>R.bind (R.bind (R.ok (D.int 1)) fun lu=>R.bind (R.bind (R.ok (D.int 7)) fun lN=>R.bind (R.ok []) fun kL=>R.ok (lN::kL)) fun lM=>R.ok (lu::lM)) fun gz=>R.ok (kj::gz)) eZ) fun lL=>R.ok (Out.nx (List.set v1 2 (Sl.val lL)))) fun v11=>
 (aV (R.bind (R.bind (R.bind (bG 0 v11) fun rf=>R.bind (R.bind (bG 2 v11) fun q8=>R.bind (R.bind (R.bind (R.bind (aX 2 v11) fun zf=>R.bind (R.ok (D.int 5)) fun zg=>R.bind (R.of (K4 zf zg)) fH) fun wm=>if wm=true then(R.ok (D.int 14))else(R.ok (D.int 8))) fun tm=>R.bind (R.ok []) fun uH=>R.ok (tm::uH)) fun q9=>R.ok (q8::q9)) fun jl=>R.ok (rf::jl)) jc) fun v20=>R.ok (Out.nx (List.set v11 3 (Sl.val v20)))) fun lP=>
 (aV (R.bind (R.bind (R.bind (bG 3 lP) fun B9=>R.bind (R.bind (bG 2 lP) fun FW=>R.bind (R.bind (bG 0 lP) fun Ay=>R.bind (R.bind (R.bind (R.bind (aX 2 lP) fun IM=>R.bind (R.ok (D.int 5)) fun Bu=>R.bind (R.of (K4 IM Bu)) fH) fun GQ=>if GQ=true then(R.ok (D.int 24))else(R.ok (D.int 14))) fun GO=>R.bind (R.ok []) fun FZ=>R.ok (GO::FZ)) fun FY=>R.ok (Ay::FY)) fun FT=>R.ok (FW::FT)) fun FU=>R.ok (B9::FU)) fg) fun B8=>R.ok (Out.nx (List.set lP 4 (Sl.val B8)))) fun v30=>
 (aV (R.bind (R.bind (R.bind (R.bind (R.bind (gD 3 v30) fun F0=>R.ok (D.lst F0)) fun xR=>R.bind (R.bind (R.bind (gD 4 v30) fun F4=>R.ok (D.lst F4)) fun xx=>R.bind (R.ok []) fun F3=>R.ok (xx::F3)) fun F5=>R.ok (xR::F5)) fit) fun ds=>R.ok (D.tup ds)) fun DI=>R.ok (Out.nx (List.set v30 5 (Sl.val DI)))) fun xS=>
 (aV (R.bind (R.bind (R.bind (bG 2 xS) fun Ip=>R.bind (R.bind (R.bind (bG 5 xS) fun Ca=>R.bind (R.ok (D.int 0)) fun Im=>sU Ca Im) fun Io=>R.bind (R.ok []) fun Il=>R.ok (Io::Il)) fun Mz=>R.ok (Ip::Mz)) gR) fun DH=>R.ok (Out.nx (List.set xS 6 (Sl.val DH)))) fun ym=>
 (aV (R.bind (R.bind (R.bind (R.bind (R.bind (R.bind (aX 6 ym) fun Ir=>R.bind (R.bind (aX 2 ym) fun Iu=>R.bind (R.ok []) fun Iw=>R.ok (Iu::Iw)) fun Iz=>R.ok (Ir::Iz)) cA) fH) fun IA=>R.ok (!IA)) fun Cb=>if Cb=true then R.ok true else(R.bind (R.bind (R.bind (R.bind (R.bind (R.bind (bG 2 ym) fun IC=>R.bind (R.bind (R.bind (bG 5 ym) fun ID=>R.bind (R.ok (D.int 1)) fun Mx=>sU ID Mx) fun IE=>R.bind (R.ok []) fun IF=>R.ok (IE::IF)) fun IG=>R.ok (IC::IG)) gR) fun IK=>R.bind (R.bind (aX 2 ym) fun My=>R.bind (R.ok []) fun MB=>R.ok (My::MB)) fun II=>R.ok (IK::II)) cA) fH) fun IJ=>R.ok (!IJ))) fun IB=>if IB=true then(R.bind (R.ok (D.bl false)) fun MC=>R.ok (Out.rt MC))else(R.ok (Out.nx ym))) fun yn=>
 (aV (R.bind (R.bind (R.bind (R.bind (R.bind (bG 2 yn) fun V9=>R.bind (R.bind (R.bind (bG 5 yn) fun RH=>R.bind (R.ok (D.int 1)) fun RE=>sU RH RE) fun Bv=>R.bind (R.ok []) fun RD=>R.ok (Bv::RD)) fun Wa=>R.ok (V9::Wa)) gR) fun DN=>R.bind (aX 6 yn) fun RB=>R.bind (R.of (y7 DN RB)) fH) fun RV=>if RV=true then R.ok true else(R.bind (R.bind (R.bind (R.bind (aX 2 yn) fun RJ=>R.bind (R.bind (R.bind (bG 5 yn) fun RM=>R.bind (R.ok (D.int 0)) fun RO=>sU RM RO) fun RQ=>R.bind (R.bind (R.bind (bG 5 yn) fun Cg=>R.bind (R.ok (D.int 1)) fun Ck=>sU Cg Ck) fun RN=>R.bind (R.ok []) fun Cf=>R.ok (RN::Cf)) fun RT=>R.ok (RQ::RT)) fun RK=>R.ok (RJ::RK)) qC) fun RL=>R.bind (R.ok (D.bl true)) fun RU=>R.bind (R.of (zd RL RU)) fH) fun RG=>if RG=true then R.ok true else(R.bind (aX 5 yn) fun Cm=>R.bind (R.bind (R.bind (R.bind (bG 3 yn) fun Cj=>R.bind (R.bind (bG 4 yn) fun IZ=>R.bind (R.ok []) fun I0=>R.ok (IZ::I0)) fun IY=>R.ok (Cj::IY)) fit) fun ds=>R.ok (D.tup ds)) fun Ci=>R.bind (R.of (y7 Cm Ci)) fH))) fun MA=>if MA=true then(R.bind (R.ok (D.bl false)) fun I8=>R.ok (Out.rt I8))else(R.ok (Out.nx yn))) fun IL=>
 (aV (R.bind (R.bind (aX 2 IL) fun Ja=>R.bind (R.ok (D.int 1)) fun Jb=>R.bind (R.of (uk Ja Jb)) fH) fun I9=>if I9=true then(R.bind (R.bind (aX 6 IL) fun Jd=>R.bind (R.bind (R.bind (R.bind (R.ok (D.int 0)) fun R0=>R.bind (R.bind (R.bind (R.bind (R.ok []) fit) fun RY=>R.ok (D.lst RY)) fun RZ=>R.bind (R.ok []) fun RX=>R.ok (RZ::RX)) fun RW=>R.ok (R0::RW)) fit) fun ds=>R.ok (D.tup ds)) fun Je=>R.of (uk Jd Je)) fun Jc=>R.ok (Out.rt Jc))else(R.ok (Out.nx IL))) fun Cn=>
 (aV (R.bind (R.bind (R.bind (R.bind (R.bind (aX 1 Cn) fun R4=>R.bind (R.bind (R.ok (D.int 3)) fun Sf=>R.bind (R.bind (R.ok (D.int 40692)) fun Sd=>R.bind (R.ok []) fun R8=>R.ok (Sd::R8)) fun R9=>R.ok (Sf::R9)) fun Se=>R.ok (R4::Se)) cy) fun R5=>R.bind (R.bind (aX 2 Cn) fun R6=>R.bind (R.ok []) fun R7=>R.ok (R6::R7)) fun R3=>R.ok (R5::R3)) bh) fun Sg=>R.ok (Out.nx (List.set Cn 7 (Sl.val Sg)))) fun zk=>
 (R.bind (R.bind (R.bind (R.bind (R.bind (aX 2 zk) fun Sy=>R.bind (R.bind (R.bind (R.bind (gD 3 zk) fun Sn=>R.bind (R.bind (R.bind (bG 7 zk) fun Ss=>R.bind (R.ok []) fun Su=>R.ok (Ss::Su)) fit) fun So=>fit (Sn++So)) fun Sv=>R.ok (D.lst Sv)) fun Sx=>R.bind (R.bind (R.bind (gD 4 zk) fun Z4=>R.ok (D.lst Z4)) fun SD=>R.bind (R.ok []) fun Z5=>R.ok (SD::Z5)) fun Sq=>R.ok (Sx::Sq)) fun Sw=>R.ok (Sy::Sw)) qC) fun Sz=>R.bind (R.ok (D.bl false)) fun Si=>R.of (VX Sz Si)) fun Sh=>R.bind (fH Sh) fun t=>if t=true then(R.bind (R.bind (R.bind (aX 2 zk) fun Z6=>R.bind (R.bind (R.bind (gD 3 zk) fun Z7=>R.ok (D.lst Z7)) fun Z8=>R.bind (R.bind (R.bind (R.bind (gD 4 zk) fun Z9=>R.bind (R.bind (R.bind (bG 7 zk) fun aaa=>R.bind (R.ok []) fun aab=>R.ok (aaa::aab)) fit) fun aac=>fit (Z9++aac)) fun aad=>R.ok (D.lst aad)) fun aae=>R.bind (R.ok []) fun aaf=>R.ok (aae::aaf)) fun aag=>R.ok (Z8::aag)) fun aah=>R.ok (Z6::aah)) qC) fun aai=>R.bind (R.ok (D.bl false)) fun aaj=>R.of (VX aai aaj))else R.ok (D.bl false)) fun SA=>R.ok (Out.rt SA))))))))))))
def wK:=mS 1 8 O8
end DL
namespace DL.oH
open PySem PySem.Spec PyProof.Rows L2 DL
def top(i:Nat):Stmt:=PySem.Challenge.pw_braidcomb_k32_one_form_by_exchanges.main.body.getD i (.Pass ⟨0,0,0,0⟩)
abbrev tN:Stmt:=top 4
theorem Cu:aD ["word"] ["word"] (ae tN):=pA
abbrev wL:Stmt:=top 5
theorem oJ:aD ["word","left","k"] ["word"] (ae wL):=pA
abbrev uy:Stmt:=top 7
theorem zq:aD ["n"] ["n"] (ae uy):=pA
abbrev D6:Stmt:=top 8
theorem JG:aD ["n"] ["n"] (ae D6):=pA
abbrev rG:Stmt:=top 9
theorem iS:aD ["row","places","place","string"] ["row"] (ae rG):=pA
abbrev wM:Stmt:=top 10
theorem Gb:aD ["row"] ["row"] (ae wM):=pA
abbrev yx:Stmt:=top 11
theorem Cw:aD ["row"] ["row"] (ae yx):=pA
abbrev gp:Stmt:=top 12
theorem lA:aD ["row","k"] ["row","k"] (ae gp):=pA
abbrev gS:Stmt:=top 13
theorem lZ:aD ["row","k"] ["row","k"] (ae gS):=pA
abbrev yy:Stmt:=top 14
theorem mJ:aD ["n","word","row","k"] ["n","word"] (ae yy):=pA
abbrev wN:Stmt:=top 15
theorem Gd:aD ["row"] ["row"] (ae wN):=pA
abbrev jV:Stmt:=top 16
theorem uM:aD ["row"] ["row"] (ae jV):=pA
abbrev wO:Stmt:=top 19
theorem kN:aD ["crossings","bits","k"] ["crossings"] (ae wO):=pA
abbrev JH:Stmt:=top 22
theorem jG:aD ["n","word","pieces","order","sign_above","k","place","held"] ["n","word"] (ae JH):=pA
abbrev oK:Stmt:=top 23
theorem uN:aD ["row"] ["row"] (ae oK):=pA
abbrev wQ:Stmt:=top 24
theorem AX:aD ["n","piece"] ["n","piece"] (ae wQ):=pA
abbrev oM:Stmt:=top 25
theorem uO:aD ["halves","row"] ["halves","row"] (ae oM):=pA
abbrev iC:Stmt:=top 26
theorem bF:aD ["steps","rows","halves","step"] ["steps"] (ae iC):=pA
abbrev iH:Stmt:=top 27
theorem eM:aD ["n","steps","comb","row","found"] ["n","steps"] (ae iH):=pA
abbrev iI:Stmt:=top 28
theorem rH:aD ["n","word"] ["n","word"] (ae iI):=pA
abbrev D7:Stmt:=top 29
theorem JI:aD ["n","word"] ["n","word"] (ae D7):=pA
abbrev D8:Stmt:=top 30
theorem JJ:aD ["n","one","other"] ["n","one","other"] (ae D8):=pA
abbrev uz:Stmt:=top 32
theorem zr:aD ["_law_cell","_law_k","_law_factor"] ["_law_cell","_law_k","_law_factor"] (ae uz):=pA
abbrev nz:Stmt:=top 33
theorem tP:aD ["_law_script","_law_k"] ["_law_script","_law_k"] (ae nz):=pA
abbrev nA:Stmt:=top 34
theorem l9:aD ["_law_seed","_law_least","_law_most"] ["_law_seed","_law_least","_law_most"] (ae nA):=pA
abbrev mf:Stmt:=top 35
theorem kO:aD ["_law_number","_law_n","_law_k"] ["_law_number","_law_n"] (ae mf):=pA
abbrev qh:Stmt:=top 36
theorem jW:aD ["_law_number","_law_n","_law_k","_law_other"] ["_law_number","_law_n"] (ae qh):=pA
abbrev qi:Stmt:=top 37
theorem fj:aD ["_law_cells","_law_n","_law_most","_law_word","_law_k","_law_cell"] ["_law_cells","_law_n","_law_most"] (ae qi):=pA
abbrev mK:Stmt:=top 38
theorem iT:aD ["_law_cells","_law_n","_law_most","_law_word","_law_total","_law_at"] ["_law_cells","_law_n","_law_most"] (ae mK):=pA
abbrev rJ:Stmt:=top 39
theorem lB:aD ["_law_word","_law_n","_law_number","_law_room","_law_p","_law_here"] ["_law_word","_law_n","_law_number","_law_room"] (ae rJ):=pA
abbrev rK:Stmt:=top 40
theorem qj:aD ["_law_word","_law_deed_here","_law_p"] ["_law_word","_law_deed_here"] (ae rK):=pA
abbrev nC:Stmt:=top 41
theorem dC:aD ["_law_word","_law_n","_law_cells","_law_room","_law_k","_law_cell","_law_deed_here"] ["_law_word","_law_n","_law_cells","_law_room"] (ae nC):=pA
abbrev jq:Stmt:=top 42
theorem dD:aD ["_law_found","_law_n","_law_last","_law_row","_law_k"] ["_law_found","_law_n"] (ae jq):=pA
abbrev JK:Stmt:=top 43
theorem kP:aD ["_law_script","_law_seed","_law_n","_law_word","_law_other","_law_handed","_law_found","_law_more"] ["_law_script"] (ae JK):=pA
structure Tb(K:PySem.W.Frag)(mg:Str->Option Value) where
 rL:Addr
 rM:FuncData
 wR:Df K mg "turned" tN ["word"] rL rM
 pD:Addr
 pF:FuncData
 tQ:Df K mg "trimmed" wL ["word"] pD pF
 iJ:Addr
 iK:FuncData
 fq:Df K mg "straight" uy ["n"] iJ iK
 zt:Addr
 zu:FuncData
 wU:Df K mg "half" D6 ["n"] zt zu
 gq:Addr
 gu:FuncData
 gw:Df K mg "places_of" rG ["row"] gq gu
 rN:Addr
 rO:FuncData
 pG:Df K mg "stops" wM ["row"] rN rO
 rP:Addr
 rQ:FuncData
 oN:Df K mg "starts" yx ["row"] rP rQ
 bp:Addr
 bq:FuncData
 aS:Df K mg "with_crossing_behind" gp ["row","k"] bp bq
 cG:Addr
 cH:FuncData
 bJ:Df K mg "with_crossing_ahead" gS ["row","k"] cG cH
 rR:Addr
 rS:FuncData
 rT:Df K mg "row_of" yy ["n","word"] rR rS
 vz:Addr
 vA:FuncData
 zx:Df K mg "ahead" wN ["row"] vz vA
 iU:Addr
 iW:FuncData
 lC:Df K mg "flipped_row" jV ["row"] iU iW
 pH:Addr
 pI:FuncData
 gx:Df K mg "as_bits" wO ["crossings"] pH pI
 D9:Addr
 Ea:FuncData
 JL:Df K mg "cut" JH ["n","word"] D9 Ea
 iX:Addr
 iY:FuncData
 lD:Df K mg "turned_step" oK ["row"] iX iY
 pJ:Addr
 pK:FuncData
 tR:Df K mg "step_of" wQ ["n","piece"] pJ pK
 iZ:Addr
 i6:FuncData
 lE:Df K mg "past_halves" oM ["halves","row"] iZ i6
 cT:Addr
 cU:FuncData
 bR:Df K mg "rows_behind_halves" iC ["steps"] cT cU
 fW:Addr
 fX:FuncData
 jr:Df K mg "form_of_steps" iH ["n","steps"] fW fX
 fY:Addr
 fZ:FuncData
 jt:Df K mg "steps_of_word" iI ["n","word"] fY fZ
 wV:Addr
 wW:FuncData
 qD:Df K mg "form" D7 ["n","word"] wV wW
 zy:Addr
 zA:FuncData
 wX:Df K mg "same" D8 ["n","one","other"] zy zA
 gg:Addr
 gh:FuncData
 iM:Df K mg "_law_mix" uz ["_law_cell","_law_k","_law_factor"] gg gh
 gU:Addr
 gV:FuncData
 jX:Df K mg "_law_cell_at" nz ["_law_script","_law_k"] gU gV
 gW:Addr
 gX:FuncData
 jY:Df K mg "_law_strings" nA ["_law_seed","_law_least","_law_most"] gW gX
 cL:Addr
 cM:FuncData
 dS:Df K mg "_law_crossing" mf ["_law_number","_law_n"] cL cM
 jH:Addr
 jI:FuncData
 mO:Df K mg "_law_piece" qh ["_law_number","_law_n"] jH jI
 jJ:Addr
 jK:FuncData
 mQ:Df K mg "_law_drawn" qi ["_law_cells","_law_n","_law_most"] jJ jK
 kQ:Addr
 kR:FuncData
 oO:Df K mg "_law_part" mK ["_law_cells","_law_n","_law_most"] kQ kR
 kT:Addr
 kU:FuncData
 oQ:Df K mg "_law_deed" rJ ["_law_word","_law_n","_law_number","_law_room"] kT kU
 kW:Addr
 kX:FuncData
 oU:Df K mg "_law_done" rK ["_law_word","_law_deed_here"] kW kX
 gY:Addr
 gZ:FuncData
 jZ:Df K mg "_law_stirred" nC ["_law_word","_law_n","_law_cells","_law_room"] gY gZ
 g4:Addr
 g5:FuncData
 g6:Df K mg "_law_is_form" jq ["_law_found","_law_n"] g4 g5
 JM:Addr
 Eb:FuncData
 O9:Df K mg "law" JK ["_law_script"] JM Eb
 wY:mg "abs"=none
 Cy:mg "bool"=none
 je:mg "enumerate"=none
 JN:mg "int"=none
 cV:mg "isinstance"=none
 jf:mg "len"=none
 g7:mg "list"=none
 Pb:mg "max"=none
 kY:mg "range"=none
 j0:mg "reversed"=none
 AY:mg "sorted"=none
 JO:mg "sum"=none
 zB:mg "tuple"=none
 rV:Tok
 rW:mg "MOST_KEPT"=some (.int 200000 rV)
end DL.oH
namespace DL.H
open PySem PySem.W L2
noncomputable section
def vi(i:Int)(t:Nat):Value:=.int i t
def vs(s:String)(t:Nat):Value:=.str (Str.ofString s) t
def vr(a:Nat):Value:=.ref a
def vy(s:String):Value:=.type s
def vb(s:String):Value:=.builtin s
def vn:Value:=.none
def vt:Value:=.bool true
def vf:Value:=.bool false
def pl:Data:=.plain
def ob(c:Value)(d:Data)(s:List (Option Value)):Obj:=⟨c,none,d,⟨s⟩⟩
def en(P:Params)(x:String)(t:Nat)(v:Value):DictEntry:=⟨PyData.keyHash P (Str.ofString x),.str (Str.ofString x) t,v⟩
def cd(n:String)(b m:List Value)(s:Addr)(q:String)(hd:Bool)(sn:List Str)(su:List Value)(ab:Bool)(c:Option Bool)(de:Bool):ClassData:=⟨Str.ofString n,b,m,s,Str.ofString q,hd,sn,su,ab,c,de⟩
def E:Obj:=ob (vy "tuple") (.seq ⟨[]⟩ 0) []
def F:Obj:=ob vn (.fields ⟨[]⟩) []
def Z:String:="/claim/cut.py"
def nO(s:Stmt):Str:=match s with|.FunctionDef n _ _ _ _ _ _ _ _ _=>n|_=>Str.empty
def lO(s:Stmt):Nat:=match s with|.FunctionDef _ _ _ _ _ _ _ _ _ p=>p.line|_=>0
def tf(s:Stmt)(q:Str):Obj:=⟨.none,none,.func {name:=nO s,qualname:=q,params:=ed s,body:=.stmts (bH s),scope:=ae s,globals:=0,closure:=[],defaults:=.none,kwdefaults:=.none},⟨[]⟩⟩
def hf(n q:Str)(s:Stmt)(m:Value)(c:Nat):Obj:=⟨.type "function",none,.func (fnOf n q (ed s) (bH s) (ae s) .none .none .none m none (.ref c) .none),⟨[]⟩⟩
def cf(n q:Str)(t l k:Nat)(f:Value)(a b:Nat)(x y z:Value)(u:Nat):Obj:=ob (vy "code") (.fields ⟨[.str n t,.str q (t+1),vs Z (t+2),.int l 0,.int k 0,vi 0 0,vi 0 0,f,vr a,.bool (f !=vi 0 0),vi 181 0,vr b,vn,x,y,z,.int u 0,.int l 0,vs Z (u+1)]⟩) []
def tu:List String->Nat->List Value
 |[],_=>[]
 |x::l,t=>vs x t::tu l (t+1)
def Pd(s:Stmt)(q:Str)(a t:Nat)(m:Value)(ns:List String):List Obj:=[E,F,ob (vy "tuple") (.seq ⟨tu ns (t+3)⟩ 0) [],E,tf s q,cf (nO s) q t (lO s) (ed s).args.length (vi 3 0) a (a+1) (vr (a+2)) (vr (a+3)) (vr (a+4)) (t+3+ns.length),hf (nO s) q s m (a+5)]
def fb5(s:Stmt)(q:Str)(a t:Nat)(m:Value):List Obj:=[E,F,tf s q,cf (nO s) q t (lO s) (ed s).args.length (vi 3 0) a (a+1) vn vn (vr (a+2)) (t+3),hf (nO s) q s m (a+3)]
def xb(P:Params)(n:String)(a t:Nat)(m:Value)(b:Nat)(l:Nat):List Obj:=
 [ob (vy "tuple") (.seq ⟨[vr b]⟩ 0) [],ob (vy "builtin_function_or_method") (.fields ⟨[vb "type.__prepare__",vy "type"]⟩) [],
  ob (vy "dict") (.dict ⟨[en P "__module__" (t+5) m,en P "__qualname__" (t+7) (vs n (t+6)),en P "__firstlineno__" (t+9) (.int l (t+8)),en P "__static_attributes__" (t+10) (vr (a+7))]⟩ 4) [],E,F,
  cf (Str.ofString n) (Str.ofString n) t l 0 (vi 0 0) (a+3) (a+4) vn vn vn (t+3),ob (vy "frame") pl [some (vr (a+5)),some (vr 3),some (vr (a+2)),none,some m,none,some (vr 0)],E,
  ob (vy "dict") (.dict ⟨[en P "__module__" (t+5) m,en P "__firstlineno__" (t+9) (.int l (t+8)),en P "__static_attributes__" (t+10) (vr (a+7)),en P "__doc__" (t+11) vn]⟩ 2) [],
  ob (vy "type") (.cls (cd n [vr b] [vr (a+9),vr b,vy "ValueError",vy "Exception",vy "BaseException",vy "object"] (a+8) n true [] [] false none false)) [some (vr a),none,some (vs n (t-2)),some (vs n (t+6)),some (vb "ValueError.__new__"),some vt],
  ob (vy "super") (.fields ⟨[vr (a+9),vr (a+9),vr (a+9)]⟩) [],ob (vy "builtin_function_or_method") (.fields ⟨[vb "object.__init_subclass__",vr (a+9)]⟩) []]
def sp:List Obj->List Obj×List Obj
 |[]=>([],[])
 |x::l=>(x::(sp l).2,(sp l).1)
def bt:Nat->List Obj->BT
 |0,_=>.nil
 |_+1,[]=>.nil
 |n+1,x::l=>.node x (bt n (sp l).1) (bt n (sp l).2)
end
end DL.H
namespace DL.oH.H
open PySem PySem.W DL.H L2
noncomputable section
abbrev pw:Program:=PySem.Challenge.pw_braidcomb_k32_one_form_by_exchanges
abbrev T(i:Nat):Stmt:=DL.oH.top i
def J(i j:Nat):Stmt:=match T i with|.ClassDef _ _ _ b _ _ _ _ _ _ _=>b.getD j (.Pass ⟨0,0,0,0⟩)|s=>s
def M3(P:Params):List DictEntry:=[en P "__doc__" 166 vn,en P "__package__" 167 vn,en P "__loader__" 168 (vb "__main__.__loader__#opaque"),en P "__spec__" 169 vn,en P "__annotations__" 170 (vr 6),en P "__builtins__" 171 (vr 4),en P "__file__" 173 (vs "/claim/cut.py" 172),en P "__cached__" 174 vn,en P "BraidError" 206 (vr 24),en P "NoRow" 222 (vr 37),en P "turned" 230 (vr 44),en P "trimmed" 239 (vr 51),en P "straight" 248 (vr 58),en P "half" 255 (vr 65),en P "places_of" 265 (vr 72),en P "stops" 271 (vr 77),en P "starts" 278 (vr 84),en P "with_crossing_behind" 286 (vr 91),en P "with_crossing_ahead" 294 (vr 98),en P "row_of" 304 (vr 105),en P "ahead" 310 (vr 110),en P "flipped_row" 316 (vr 115),en P "MOST_KEPT" 320 (vi 200000 319),en P "as_bits" 329 (vr 122),en P "Comb" 435 (vr 186),en P "cut" 451 (vr 197),en P "turned_step" 458 (vr 204),en P "step_of" 466 (vr 211),en P "past_halves" 474 (vr 218),en P "rows_behind_halves" 484 (vr 225),en P "form_of_steps" 490 (vr 230),en P "steps_of_word" 496 (vr 235),en P "form" 504 (vr 242),en P "same" 513 (vr 249),en P "_law_mix" 524 (vr 256),en P "_law_cell_at" 532 (vr 263),en P "_law_strings" 541 (vr 270),en P "_law_crossing" 550 (vr 277),en P "_law_piece" 560 (vr 284),en P "_law_drawn" 572 (vr 291),en P "_law_part" 578 (vr 296),en P "_law_deed" 590 (vr 303),en P "_law_done" 599 (vr 310),en P "_law_stirred" 612 (vr 317),en P "_law_is_form" 618 (vr 322),en P "law" 632 (vr 329)]
def m3(P:Params)(v:Value)(k e:Nat):Obj:=ob (vy "dict") (.dict ⟨en P "__name__" 165 v::(M3 P).take k⟩ e) []
def L12:List (Nat×Nat):=[(2,20),(4,33),(7,43),(9,50),(18,57),(20,64),(22,71),(27,76),(29,83),(31,90),(33,97),(35,104),(44,109),(46,114),(50,121),(55,128),(128,196),(143,203),(145,210),(149,217),(153,224),(161,229),(167,234),(169,241),(171,248),(174,255),(176,262),(180,269),(185,276),(190,283),(196,290),(202,295),(209,302),(221,309),(230,316),(236,321),(252,328)]
def Ui(k:Nat):Obj:=ob vn (.fields ⟨(L12.take k).flatMap fun x=>[.int x.1 0,vi 0 0,vr x.2]⟩) []
def w0:Value:=vs "braidcomb.errors" 187
def w1:Value:=vs "braidcomb.words" 223
def w2:Value:=vs "braidcomb.rows" 240
def w3:Value:=vs "braidcomb.sliding" 317
def w4:Value:=vs "braidcomb.forms" 436
def w5:Value:=vs "law_braidcomb_k32_one_form_by_exchanges" 514
def f7(i a t:Nat)(m:Value)(ns:List String):List Obj:=Pd (T i) (nO (T i)) a t m ns
def f5(i a t:Nat)(m:Value):List Obj:=fb5 (T i) (nO (T i)) a t m
def FL(P:Params):List Obj:=[boot_o_0 P,boot_o_1 P,boot_o_2 P,m3 P w5 46 47,boot_o_4 P,boot_o_5 P,boot_o_6 P,boot_o_7 P,boot_o_8 P,boot_o_9 P,boot_o_10 P]
 ++[E,(Ui 37),(ob (vy "code") (.fields ⟨[(vs "<module>" 182),(vs "<module>" 183),(vs "/claim/cut.py" 184),(vi 1 0),(vi 0 0),(vi 0 0),(vi 0 0),(vi 0 0),(vr 11),vf,(vi 181 0),(vr 12),vn,vn,vn,vn,(vi 185 0),(vi 1 0),(vs "/claim/cut.py" 186)]⟩) []),(ob (vy "frame") pl [(some (vr 13)),(some (vr 3)),(some (vr 3)),none,(some (vs "__main__" 164)),none,(some (vr 0))]),(ob (vy "tuple") (.seq ⟨[(vy "ValueError")]⟩ 0) []),(ob (vy "builtin_function_or_method") (.fields ⟨[(vb "type.__prepare__"),(vy "type")]⟩) []),(ob (vy "dict") (.dict ⟨[(en P "__module__" 196 (vs "braidcomb.errors" 187)),(en P "__qualname__" 198 (vs "BraidError" 197)),(en P "__firstlineno__" 200 (vi 2 199)),(en P "__static_attributes__" 201 (vr 22))]⟩ 4) []),E,F,(ob (vy "code") (.fields ⟨[(vs "BraidError" 191),(vs "BraidError" 192),(vs "/claim/cut.py" 193),(vi 2 0),(vi 0 0),(vi 0 0),(vi 0 0),(vi 0 0),(vr 18),vf,(vi 181 0),(vr 19),vn,vn,vn,vn,(vi 194 0),(vi 2 0),(vs "/claim/cut.py" 195)]⟩) []),(ob (vy "frame") pl [(some (vr 20)),(some (vr 3)),(some (vr 17)),none,(some (vs "braidcomb.errors" 187)),none,(some (vr 0))]),E,(ob (vy "dict") (.dict ⟨[(en P "__module__" 196 (vs "braidcomb.errors" 187)),(en P "__firstlineno__" 200 (vi 2 199)),(en P "__static_attributes__" 201 (vr 22)),(en P "__weakref__" 203 (vr 25)),(en P "__doc__" 204 vn)]⟩ 3) []),(ob (vy "type") (.cls (cd "BraidError" [(vy "ValueError")] [(vr 24),(vy "ValueError"),(vy "Exception"),(vy "BaseException"),(vy "object")] 23 "BraidError" true [] [(vr 37)] false none false)) [(some (vr 15)),none,(some (vs "BraidError" 189)),(some (vs "BraidError" 197)),(some (vb "ValueError.__new__")),(some vt)]),(ob (vy "getset_descriptor") (.fields ⟨[(vs "__weakref__" 202),(vr 24),(vb "ExceptionGroup.__weakref__"),vn]⟩) []),(ob (vy "super") (.fields ⟨[(vr 24),(vr 24),(vr 24)]⟩) []),(ob (vy "builtin_function_or_method") (.fields ⟨[(vb "object.__init_subclass__"),(vr 24)]⟩) [])]
 ++xb P "NoRow" 28 209 w0 24 4
 ++f5 4 40 225 w1
 ++f7 5 45 231 w1 ["word","left","k"]
 ++f7 7 52 242 w2 ["n"]
 ++f7 8 59 249 w2 ["n"]
 ++f7 9 66 256 w2 ["row","places","place","string"]
 ++f5 10 73 266 w2
 ++f7 11 78 272 w2 ["row"]
 ++f7 12 85 279 w2 ["row","k"]
 ++f7 13 92 287 w2 ["row","k"]
 ++f7 14 99 295 w2 ["n","word","row","k"]
 ++f5 15 106 305 w2
 ++f5 16 111 311 w2
 ++f7 19 116 321 w3 ["crossings","bits","k"]
 ++[E,(ob (vy "builtin_function_or_method") (.fields ⟨[(vb "type.__prepare__"),(vy "type")]⟩) []),(ob (vy "dict") (.dict ⟨[(en P "__module__" 337 w3),(en P "__qualname__" 339 (vs "Comb" 338)),(en P "__firstlineno__" 341 (vi 55 340)),(en P "__init__" 349 (vr 136)),(en P "number_of" 358 (vr 143)),(en P "without_first" 368 (vr 150)),(en P "with_last" 378 (vr 157)),(en P "slide" 389 (vr 164)),(en P "slide_kept" 400 (vr 171)),(en P "put" 411 (vr 178)),(en P "form_told" 417 (vr 183)),(en P "__static_attributes__" 428 (vr 184))]⟩ 12) []),E,(ob vn (.fields ⟨[(vi 57 0),(vi 4 0),(vr 135),(vi 69 0),(vi 4 0),(vr 142),(vi 78 0),(vi 4 0),(vr 149),(vi 84 0),(vi 4 0),(vr 156),(vi 90 0),(vi 4 0),(vr 163),(vi 99 0),(vi 4 0),(vr 170),(vi 108 0),(vi 4 0),(vr 177),(vi 122 0),(vi 4 0),(vr 182)]⟩) []),(ob (vy "code") (.fields ⟨[(vs "Comb" 332),(vs "Comb" 333),(vs "/claim/cut.py" 334),(vi 55 0),(vi 0 0),(vi 0 0),(vi 0 0),(vi 0 0),(vr 126),vf,(vi 181 0),(vr 127),vn,vn,vn,vn,(vi 335 0),(vi 55 0),(vs "/claim/cut.py" 336)]⟩) []),(ob (vy "frame") pl [(some (vr 128)),(some (vr 3)),(some (vr 125)),none,(some w3),none,(some (vr 0))])]
 ++Pd (J 20 0) "Comb.__init__" 130 342 w3 ["self","n"]
 ++Pd (J 20 1) "Comb.number_of" 137 350 w3 ["self","row","key"]
 ++Pd (J 20 2) "Comb.without_first" 144 359 w3 ["self","number","k","step"]
 ++Pd (J 20 3) "Comb.with_last" 151 369 w3 ["self","number","k","step"]
 ++Pd (J 20 4) "Comb.slide" 158 379 w3 ["self","one","other","free","k"]
 ++Pd (J 20 5) "Comb.slide_kept" 165 390 w3 ["self","one","other","pair","found"]
 ++Pd (J 20 6) "Comb.put" 172 401 w3 ["self","row","line","place","pair"]
 ++fb5 (J 20 7) "Comb.form_told" 179 412 w3
 ++[(ob (vy "tuple") (.seq ⟨[(vs "firsts" 418),(vs "kept" 419),(vs "known" 420),(vs "lasts" 421),(vs "line" 422),(vs "longer" 423),(vs "none" 424),(vs "numbers" 425),(vs "shorter" 426),(vs "whole" 427)]⟩ 0) []),(ob (vy "dict") (.dict ⟨[(en P "__module__" 337 w3),(en P "__firstlineno__" 341 (vi 55 340)),(en P "__init__" 349 (vr 136)),(en P "number_of" 358 (vr 143)),(en P "without_first" 368 (vr 150)),(en P "with_last" 378 (vr 157)),(en P "slide" 389 (vr 164)),(en P "slide_kept" 400 (vr 171)),(en P "put" 411 (vr 178)),(en P "form_told" 417 (vr 183)),(en P "__static_attributes__" 428 (vr 184)),(en P "__dict__" 430 (vr 187)),(en P "__weakref__" 432 (vr 188)),(en P "__doc__" 433 vn)]⟩ 4) []),(ob (vy "type") (.cls (cd "Comb" [(vy "object")] [(vr 186),(vy "object")] 185 "Comb" true [] [] false none false)) [none,none,(some (vs "Comb" 330)),(some (vs "Comb" 338)),(some (vb "object.__new__")),(some vt)]),(ob (vy "getset_descriptor") (.fields ⟨[(vs "__dict__" 429),(vr 186),(vb "function.__dict__"),(vb "function.__dict__#set")]⟩) []),(ob (vy "getset_descriptor") (.fields ⟨[(vs "__weakref__" 431),(vr 186),(vb "ExceptionGroup.__weakref__"),vn]⟩) []),(ob (vy "super") (.fields ⟨[(vr 186),(vr 186),(vr 186)]⟩) []),(ob (vy "builtin_function_or_method") (.fields ⟨[(vb "object.__init_subclass__"),(vr 186)]⟩) [])]
 ++f7 22 191 438 w4 ["n","word","pieces","order","sign_above","k","place","held"]
 ++f7 23 198 452 w4 ["row"]
 ++f7 24 205 459 w4 ["n","piece"]
 ++f7 25 212 467 w4 ["halves","row"]
 ++f7 26 219 475 w4 ["steps","rows","halves","step"]
 ++f5 27 226 485 w4
 ++f5 28 231 491 w4
 ++f7 29 236 497 w4 ["n","word"]
 ++f7 30 243 505 w4 ["n","one","other"]
 ++f7 32 250 516 w5 ["_law_cell","_law_k","_law_factor"]
 ++f7 33 257 525 w5 ["_law_script","_law_k"]
 ++f7 34 264 533 w5 ["_law_seed","_law_least","_law_most"]
 ++f7 35 271 542 w5 ["_law_number","_law_n","_law_k"]
 ++f7 36 278 551 w5 ["_law_number","_law_n","_law_k","_law_other"]
 ++f7 37 285 561 w5 ["_law_cells","_law_n","_law_most","_law_word","_law_k","_law_cell"]
 ++f5 38 292 573 w5
 ++f7 39 297 579 w5 ["_law_word","_law_n","_law_number","_law_room","_law_p","_law_here"]
 ++f7 40 304 591 w5 ["_law_word","_law_deed_here","_law_p"]
 ++f7 41 311 600 w5 ["_law_word","_law_n","_law_cells","_law_room","_law_k","_law_cell","_law_deed_here"]
 ++f5 42 318 613 w5
 ++f7 43 323 619 w5 ["_law_script","_law_seed","_law_n","_law_word","_law_other","_law_handed","_law_found","_law_more"]
def as:List Addr:=2::3::(range 319).map (·+11)
def K(P:Params):Frag:=as.map fun a=>(a,(FL P).getD a E)
def q:Program:=view pw [1,2,4,5,7,8,9,10,11,12,13,14,15,16,18,19,20,22,23,24,25,26,27,28,29,30,32,33,34,35,36,37,38,39,40,41,42,43]
def env:Env:={scope:=pw.main.scope,locals:=mainNs,globals:=mainNs,cells:=[],code:=vr 13,frame:=some 14}
def bd:List Stmt:=behindTheImports pw
abbrev cE:Code:=.body bd env
abbrev fr:List Frame:=[topFrame ⟨0,0,0,0⟩]
abbrev an:Option Value:=(some (vr 6))
def S(P:Params):Nat->List Obj
 |0=>(((FL P).take 15).set 12 (Ui 0)).set 3 (boot_o_3 P)
 |1=>(((FL P).take 45).set 3 (m3 P w1 11 12)).set 12 (Ui 3)
 |2=>(((FL P).take 123).set 3 (m3 P w3 24 25)).set 12 (Ui 15)
 |3=>(((FL P).take 191).set 3 (m3 P w3 25 26)).set 12 (Ui 16)
 |4=>(((FL P).take 285).set 3 (m3 P w5 39 40)).set 12 (Ui 30)
 |5=>(FL P).take 330
 |_=>[]
abbrev st(i n t:Nat)(w:World)(os:OsState):SharedT:=⟨bt 12 (S w.params i),n,(boot_heap w.params).life,⟨[]⟩,boot_drawn,t,os⟩
theorem pre(w:World)(os:OsState):topGo treeTable pw w 11 an 12 ⟨boot_heap w.params,⟨[]⟩,boot_drawn,boot_toks,os⟩ (topStub pw)=some ((st 0 15 187 w os).abs,⟨denote treeTable cE,cE,⟨0,0,0,0⟩,fr⟩):=by kernel_rfl
theorem blk(w:World)(os:OsState):segRun treeTable pw w 11 an 1 1 (st 0 15 187 w os).abs (blockOf bd env cE ⟨0,0,0,0⟩ fr)=some (.next,(st 0 15 187 w os).abs,cE,⟨0,0,0,0⟩):=by kernel_rfl
abbrev Pc(N i n t d k:Nat)(p:Pos)(n2 t2:Nat)(p2:Pos)(w:World)(os:OsState):Prop:=segRunT treeTable pw w 11 an 1 N (st i n t w os) (piecesOf ((bd.drop d).take k) env cE p fr)=some (.next,st (i+1) n2 t2 w os,cE,p2)
theorem pc0(w:World)(os:OsState):Pc 444 0 15 187 0 5 ⟨0,0,0,0⟩ 45 231 ⟨7,0,8,39⟩ w os:=by kernel_rfl
theorem pc1(w:World)(os:OsState):Pc 379 1 45 231 5 15 ⟨7,0,8,39⟩ 123 330 ⟨50,0,54,15⟩ w os:=by kernel_rfl
theorem pc2(w:World)(os:OsState):Pc 466 2 123 330 20 1 ⟨50,0,54,15⟩ 191 436 ⟨55,0,126,80⟩ w os:=by kernel_rfl
theorem pc3(w:World)(os:OsState):Pc 444 3 191 436 21 16 ⟨55,0,126,80⟩ 285 561 ⟨190,0,195,135⟩ w os:=by kernel_rfl
theorem pc4(w:World)(os:OsState):Pc 223 4 285 561 37 7 ⟨190,0,195,135⟩ 330 633 ⟨252,0,266,144⟩ w os:=by kernel_rfl
theorem fin(w:World)(os:OsState):topRun treeTable pw w 11 an 2 (st 5 330 633 w os).abs (restOf [] env cE ⟨252,0,266,144⟩ fr)=some (st 5 330 633 w os).abs:=by kernel_rfl
theorem cut:bd=((bd.drop 0).take 5++((bd.drop 5).take 15++((bd.drop 20).take 1++((bd.drop 21).take 16++((bd.drop 37).take 7++[]))))):=by kernel_rfl
theorem rest{tb:String->Option Builtin}{p:Program}{w:World}{n₀ N:Nat}{ann:Option Value}{s r:Shared}{b b':List Stmt}{e:Env}{c:Code}{ps:Pos}{B:List Frame}(h:b=b')(k:topRun tb p w n₀ ann N s (restOf b' e c ps B)=some r):topRun tb p w n₀ ann N s (restOf b e c ps B)=some r:=h▸k
theorem run(w:World)(os:OsState):topRun treeTable pw w 11 an (12+(1+(444+(379+(466+(444+(223+2))))))) ⟨boot_heap w.params,⟨[]⟩,boot_drawn,boot_toks,os⟩ (topStub pw)=some (st 5 330 633 w os).abs:=go_top (pre w os) (piece_block (blk w os) (rest cut (piece_app (segRun_of (pc0 w os)) (piece_app (segRun_of (pc1 w os)) (piece_app (segRun_of (pc2 w os)) (piece_app (segRun_of (pc3 w os)) (piece_app (segRun_of (pc4 w os)) (fin w os))))))))
def lo:List Str:=[]
def hk:Hook:=kHook K as (fun _=>by kernel_rfl)
def Xt(s:Shared):Bool:=xlAt q [] s&&recOk (OpenLaw.row PySem.Challenge.rw_braidcomb_k32_one_form_by_exchanges).toRowW.records s
abbrev H1(P:Params):Heap:=absHeap (bt 12 (S P 5)) 330 (boot_heap P).life
theorem Wh(w:World)(os:OsState):(staticsOk (importedModules pw.main.body) (boot_heap w.params) (H1 w.params)&&namesBound pw (H1 w.params)&&gensDone ⟨H1 w.params,⟨[]⟩,boot_drawn,633,os⟩&&laidKept (boot_heap w.params) (H1 w.params))=true:=by kernel_rfl
theorem Wi(w:World)(os:OsState):(openSeen q lo (importedModules pw.main.body) Xt true ⟨H1 w.params,⟨[]⟩,boot_drawn,633,os⟩)=openGood q lo:=by kernel_rfl
theorem Wj(w:World)(os:OsState):(hk.obs ⟨H1 w.params,⟨[]⟩,boot_drawn,633,os⟩)=hk.val w:=by kernel_rfl
theorem o1:opening pw=plainProg pw.main.scope.names:=by kernel_rfl
theorem o2(s:Shared):fenceModules? pw s=some s:=by kernel_rfl
theorem o3:ble 600 4028=true:=by kernel_rfl
theorem op(w:World):(fencedOpening treeTable pw w 4028).map (fun s=>(s.heap,s.gens,s.drawn,s.toks))=some (boot_heap w.params,⟨[]⟩,boot_drawn,boot_toks):=boot_open o1 o3 o2 w
theorem sz(w:World):((boot_heap w.params).isNs mainGlobals&&(⟨[]⟩:Array GenState).size==0,(boot_heap w.params).objs.size,(boot_heap w.params).nsMap mainGlobals "__annotations__")=(true,11,an):=by kernel_rfl
theorem le:ble (12+(1+(444+(379+(466+(444+(223+2))))))) 4028=true:=by kernel_rfl
theorem ab(w:World)(os:OsState):some (st 5 330 633 w os).abs=some ⟨H1 w.params,⟨[]⟩,boot_drawn,633,os⟩:=by kernel_rfl
theorem run'(w:World)(os:OsState):topRun treeTable pw w 11 an (12+(1+(444+(379+(466+(444+(223+2))))))) ⟨boot_heap w.params,⟨[]⟩,boot_drawn,boot_toks,os⟩ (topStub pw)=some ⟨H1 w.params,⟨[]⟩,boot_drawn,633,os⟩:=Eq.trans (run w os) (ab w os)
theorem left:LeftO pw q lo Xt hk.obs hk.val 4028 true:=
 @LeftO.of_pieces pw q lo Xt hk.α hk.obs hk.val 4028 true boot_heap H1 ⟨[]⟩ ⟨[]⟩ boot_drawn boot_drawn boot_toks 633 11 an (12+(1+(444+(379+(466+(444+(223+2))))))) op sz run' le (fun w=>funext fun os=>Prod.ext (Wh w os) (Prod.ext (Wi w os) (Wj w os)))
end
end DL.oH.H
namespace DL.oH
open PySem PySem.Spec PyProof.Rows L2 DL
abbrev JP:Stmt:=inClass (top 20) 1
structure Lc(K:PySem.W.Frag)(mg:Str->Option Value)(C:Addr):Prop where
 cl:Hg K C
 kn:fG K C "known"
 nu:fG K C "numbers"
 fi:fG K C "firsts"
 la:fG K C "lasts"
 sh:fG K C "shorter"
 lo:fG K C "longer"
 ke:fG K C "kept"
 li:fG K C "line"
 no:fG K C "none"
 wh:fG K C "whole"
 mgC:mg "Comb"=some (.ref C)
 mtu:mg "tuple"=none
 mli:mg "list"=none
 XF:mg "len"=none
def AZ(K:PySem.W.Frag)(C:Addr):Sp:=fun vs H Q _=>∃(a:Addr)(A:Ad)(ex:List (Str×V))(n:Nat)(kn:List RP)(ln:List Int)(B:Nat)(nu sh lo ke:List (List Key×V))(p:RP)(v:V),
 vs=[.ref a,v]/\hU C H a A ex n kn ln B nu sh lo ke/\n<=7/\B<1000000/\Iv n p.1 p.2/\Is K (fun x=>x∉a::A.all) H (.lst (aK p.1)) v/\
 ∀(i:Nat)(H':Hp)(A':Ad)(mo:List RP)(Cz:List (List Key×V)),hU C H' a A' ex n (kn++mo) ln (B+1) Cz sh lo ke->(kn++mo)[i]?=some p->ie H H' (a::A.all) (a::A'.all)->A'.li=A.li->Q (.int i) H'
section
variable{P:Program}{w:World}{K:PySem.W.Frag}{mg:Str->Option Value}{base:Heap}
theorem sc1:aD ["self","row","key"] ["self","row"] (ae JP):=⟨rfl,rfl,rfl,by decide +kernel,rfl,by decide +kernel,by decide +kernel⟩
theorem SY{f C:Addr}{fd:FuncData}(F:z8 K "number_of" "Comb.number_of" JP f fd)(T:Lc K mg C)(t:Tb K mg)
  (wZ:mB P w K mg base 2 t.rP t.rQ ["row"] rz)(pL:mB P w K mg base 1 t.rN t.rO ["row"] pB)(JQ:Ok P w K mg base 1 t.pH t.pI ["crossings"] lT)
  (Pe:∀ks:List Int,(∀k∈ks,1<=k/\k<=7)->lT [.lst (aK ks)]=.ok (.int (Cq ks))):cu P w K mg base kC 3 f fd ["self","row"] (AZ K C):=by
 refine F.ok sc1 (fun vs H Q E h=>?_) (fun cdv A outer s H vs Q E hr h=>?_)
 ·obtain⟨a,A,ex,n,kn,ln,B,nu,sh,lo,ke,p,v,rfl,_⟩:=h
  rfl
 ·obtain⟨a,A,ex,n,kn,ln,B,nu,sh,lo,ke,p,v,rfl,c,hn,hB,iv,K9,k⟩:=h
  have hu:=qM hr
  refine⟨_,aF (dq (i:=2) sc1.nd rfl (Or.inl rfl) (o7 xH (by rfl) T.mtu Al (aB (pv 1) aN)))
   (aF (ud (BA (sP hu (pv 2) (bD (pv 0) rfl)))
    (aF (uX hu (bD (pv 0) rfl) (pv 2) (i7 mm (by rfl) T.XF dJ (aB (bD (pv 0) rfl) aN)) rfl)
    (aF (gB (ug plainAttrs_list PySem.F.slot_list_append PySem.F.type_list_append fy (bD (pv 0) rfl) (aB (o7 mw (by rfl) T.mli mz (aB (pv 1) aN)) aN)) rfl)
    (aF (gB (ug plainAttrs_list PySem.F.slot_list_append PySem.F.type_list_append fy (bD (pv 0) rfl) (aB (dZ (E:=fun _ _ _=>False) JQ (hr.mono (by decide)) (by rfl) t.gx.m t.gx.F.kp t.gx.b .nil kG (aB (dZ (E:=fun _ _ _=>False) wZ (hr.mono (by decide)) (by rfl) t.oN.m t.oN.F.kp t.oN.b .nil kG (aB (pv 1) aN)) aN)) aN)) rfl)
    (bU (gB (ug plainAttrs_list PySem.F.slot_list_append PySem.F.type_list_append fy (bD (pv 0) rfl) (aB (dZ (E:=fun _ _ _=>False) JQ (hr.mono (by decide)) (by rfl) t.gx.m t.gx.F.kp t.gx.b .nil kG (aB (dZ (E:=fun _ _ _=>False) pL (hr.mono (by decide)) (by rfl) t.pG.m t.pG.F.kp t.pG.b .nil kG (aB (pv 1) aN)) aN)) aN)) rfl))))) ky)
   (bU (lg (yX hu (bD (pv 0) rfl) (pv 2) (fun _ _=>rfl))))),?_⟩
  obtain⟨b,vs,rfl,lb,il⟩:=id K9
  have ev:=fQ il
  subst ev
  refine⟨_,rfl,b,_,rfl,.inl ⟨lb.sq,fun l hl=>?_⟩⟩
  have s1:aM H (upd H l (.tup (p.1.map V.int))):=aO hl _
  have c1:=c.same s1
  have hkey:(upd H l (.tup (p.1.map V.int))) l=some (.tup ((kk p.1).map kV)):=by rw[ZV];exact ar
  have zC:=ie.same s1 (a::A.all)
  generalize hH1:upd H l (.tup (p.1.map V.int))=H1 at s1 c1 hkey zC
  refine⟨_,rfl,_,rfl,a,C,A.dx,_,_,rfl,c1.ob,T.cl,T.nu,DS,A.nu,_,rfl,mx.t c1.xU hkey,_,rfl,?_⟩
  by_cases hm:∃q∈kn,q.1=p.1
  ·obtain⟨q,hq,eq⟩:=hm
   have hqp:q=p:=jz (c.rw q hq) iv eq
   subst hqp
   obtain⟨i,hi,ei⟩:=getElem_of_mem hq
   have xW:kn[i]?=some q:=by rw[getElem?_eq_getElem hi,ei]
   have hv:=c.n1 i q xW
   rw[hv]
   refine sN ?_
   refine⟨_,rfl,a,C,A.dx,_,_,rfl,c1.ob,T.cl,T.nu,DS,_,rfl,A.nu,.int i,rfl,?_,?_⟩
   ·have:=mx.t (k:=kk q.1) c1.xU hkey
    rw[hv]at this
    exact this
   ·exact k i H1 A [] nu (by rw[append_nil];exact c1.more (by omega)) (by rw[append_nil];exact xW) zC rfl
  ·have hv:du nu (kk p.1)=none:=c.n2 p.1 fun q hq e=>hm ⟨q,hq,e⟩
   rw[hv]
   refine uD ?_
   have hz:=c.z
   obtain⟨⟨n1,n2,n3,n4,n5,n6⟩,⟨m1,m2,m3,m4,m5,m6⟩,SK,⟨d1,d2,d3,d4,d5,d6,d7,d8,d9⟩,Wc⟩:=c.SJ
   have big:∀{x:Nat},x<=1000001->x<sizeLine:=fun h=>Nat.lt_of_le_of_lt h (by decide)
   have MN:∀x∈A.hd,x∈a::A.all:=fun x hx=>mem_cons_of_mem _ (mem_append_left _ hx)
   refine⟨_,rfl,a,C,A.dx,_,_,rfl,c1.ob,T.cl,T.kn,yv,A.kn,_,rfl,.inl (cX.of c1.hkn),_,rfl,a,C,A.dx,_,_,rfl,c1.ob,T.cl,T.nu,DS,_,rfl,A.nu,_,rfl,Ab.t c1.xU hkey (big (by omega)),?_⟩
   rw[length_map,c.AQ]
   have k1n:A.kn≠A.nu:=bM c.hkn c.xU (by intro z;cases z)
   have fin:A.fi≠A.nu:=bM c.xy c.xU (by intro z;cases z)
   have lan:A.la≠A.nu:=bM c.hla c.xU (by intro z;cases z)
   have an:a≠A.nu:=bM c.ob c.xU (by intro z;cases z)
   have akn:a≠A.kn:=bM c.ob c.hkn (by intro z;cases z)
   have afi:a≠A.fi:=bM c.ob c.xy (by intro z;cases z)
   have ala:a≠A.la:=bM c.ob c.hla (by intro z;cases z)
   have ln1:l≠A.nu:=fun z=>by rw[z,c.xU]at hl;cases hl
   generalize hH2:upd H1 A.nu (.dT (putK nu (kk p.1) (.int (kn.length:Int))))=H2
   have Wk:H2 a=some (.ins C A.dx (uI A++ex)):=by rw[<-hH2,ai an];exact c1.ob
   have Pf:H2 A.kn=some (.lst (A.ks.map V.ref)):=by rw[<-hH2,ai k1n];exact c1.hkn
   have CA:ie H H2 (a::A.all) (a::A.all):=zC.trans (by rw[<-hH2];exact ie.upd (MN _ (by simp[Ad.hd])) _)
   have lb2:uE K (fun _=>True) H2 b (p.1.map V.int):=lb.ext ⟨fun _ _ _ _=>trivial,fun x o px hx=>CA.kp x o px hx⟩
   refine⟨_,rfl,a,C,A.dx,_,_,rfl,Wk,T.cl,T.kn,yv,.inl ⟨rfl,_,cX.of Pf⟩,_,rfl,b,_,rfl,.inl lb2.sq,fun l2 hl2=>?_⟩
   have Ue:H l2=none:=CA.gr l2 hl2
   have l2k:A.kn≠l2:=fun z=>by rw[<-z,Pf]at hl2;cases hl2
   refine⟨A.kn,A.ks.map V.ref,.ref l2,rfl,rfl,by rw[ai l2k];exact Pf,by rw[length_map,c.AQ];exact big (by omega),?_⟩
   generalize Ld:upd (upd H2 l2 (.lst (p.1.map V.int))) A.kn (.lst (A.ks.map V.ref++[.ref l2]))=H3
   have sH:ie H H3 (a::A.all) (a::A.all):=by
    rw[<-Ld]
    exact(CA.trans (ie.same (aO hl2 _) _)).trans (ie.upd (MN _ (by simp[Ad.hd])) _)
   have Wl:H3 a=some (.ins C A.dx (uI A++ex)):=by rw[<-Ld,ai akn];exact aO hl2 _ _ _ Wk
   have fi3:H3 A.fi=some (.lst (kn.map fun p=>V.int (uJ p.2))):=by
    rw[<-Ld,ai (Ne.symm n1)]
    refine aO hl2 _ _ _ ?_
    rw[<-hH2,ai fin]
    exact c1.xy
   have lb3:uE K (fun _=>True) H3 b (p.1.map V.int):=lb.ext ⟨fun _ _ _ _=>trivial,fun x o px hx=>sH.kp x o px hx⟩
   refine⟨_,rfl,a,C,A.dx,_,_,rfl,Wl,T.cl,T.fi,Jl,.inl ⟨rfl,_,cX.of fi3⟩,_,rfl,_,[.lst (aK p.1)],⟨.ref b,[],rfl,⟨b,_,rfl,lb3,bZ p.1⟩,rfl⟩,?_⟩
   have hd7:∀(m:Nat)(x y:List Int),m<=7->Iv m x y->∀k∈zS y,1<=k/\k<=7:=fun m x y hm h k hk=>by
    obtain⟨a',e,h1,_⟩:=rB.mp hk
    rw[h.ls]at h1
    omega
   rw[F7 iv hn]
   intro q ws H4 s4 hq4 hw4 iw4
   have ew:=fQ iw4
   subst ew
   refine⟨fun _=>True,[.lst (aK (zS p.2))],⟨.ref q,[],rfl,⟨q,_,rfl,.inl ⟨trivial,.inl hw4⟩,bZ _⟩,rfl⟩,?_⟩
   rw[Pe _ (hd7 n p.1 p.2 hn iv)]
   intro v5 H5 s5 i5
   have e5:v5=.int (Cq (zS p.2)):=i5
   subst e5
   have MO:=s4.trans s5
   refine⟨A.fi,_,.int (uJ p.2),rfl,rfl,MO _ _ fi3,by rw[length_map];exact big (by omega),?_⟩
   generalize Le:upd H5 A.fi (.lst ((kn.map fun p=>V.int (uJ p.2))++[V.int (uJ p.2)]))=H6
   have XG:ie H H6 (a::A.all) (a::A.all):=by
    rw[<-Le]
    exact(sH.trans (ie.same MO _)).trans (ie.upd (MN _ (by simp[Ad.hd])) _)
   have XH:H6 a=some (.ins C A.dx (uI A++ex)):=by rw[<-Le,ai afi];exact MO _ _ Wl
   have la6:H6 A.la=some (.lst (kn.map fun p=>V.int (uJ p.1))):=by
    rw[<-Le,ai (Ne.symm n4)]
    refine MO _ _ ?_
    rw[<-Ld,ai (Ne.symm n2)]
    refine aO hl2 _ _ _ ?_
    rw[<-hH2,ai lan]
    exact c1.hla
   have lb6:uE K (fun _=>True) H6 b (p.1.map V.int):=lb.ext ⟨fun _ _ _ _=>trivial,fun x o px hx=>XG.kp x o px hx⟩
   refine⟨_,rfl,a,C,A.dx,_,_,rfl,XH,T.cl,T.la,Jm,.inl ⟨rfl,_,cX.of la6⟩,_,rfl,_,[.lst (aK p.1)],⟨.ref b,[],rfl,⟨b,_,rfl,lb6,bZ p.1⟩,rfl⟩,?_⟩
   rw[AO p.1 (by rw[iv.lr];exact hn)]
   intro q7 ws7 H7 s7 hq7 hw7 iw7
   have ew7:=fQ iw7
   subst ew7
   refine⟨fun _=>True,[.lst (aK (zS p.1))],⟨.ref q7,[],rfl,⟨q7,_,rfl,.inl ⟨trivial,.inl hw7⟩,bZ _⟩,rfl⟩,?_⟩
   rw[Pe _ (hd7 n p.2 p.1 hn iv.symm)]
   intro v8 H8 s8 i8
   have e8:v8=.int (Cq (zS p.1)):=i8
   subst e8
   have Pg:=s7.trans s8
   refine⟨A.la,_,.int (uJ p.1),rfl,rfl,Pg _ _ la6,by rw[length_map];exact big (by omega),?_⟩
   generalize Ph:upd H8 A.la (.lst ((kn.map fun p=>V.int (uJ p.1))++[V.int (uJ p.1)]))=H9
   have fr9:ie H H9 (a::A.all) (a::A.all):=by
    rw[<-Ph]
    exact(XG.trans (ie.same Pg _)).trans (ie.upd (MN _ (by simp[Ad.hd])) _)
   have keep:∀x o,x≠A.nu->x≠A.kn->x≠A.fi->x≠A.la->H x=some o->H9 x=some o:=fun x o x1 x2 x3 x4 hx=>by
    rw[<-Ph,ai x4]
    refine Pg _ _ ?_
    rw[<-Le,ai x3]
    refine MO _ _ ?_
    rw[<-Ld,ai x2]
    refine aO hl2 _ _ _ ?_
    rw[<-hH2,ai x1]
    exact s1 _ _ hx
   have XC:H9 a=some (.ins C A.dx (uI A++ex)):=keep a _ an akn afi ala c.ob
   have XD:H9 A.nu=some (.dT (putK nu (kk p.1) (.int (kn.length:Int)))):=by
    rw[<-Ph,ai (Ne.symm lan)]
    refine Pg _ _ ?_
    rw[<-Le,ai (Ne.symm fin)]
    refine MO _ _ ?_
    rw[<-Ld,ai (Ne.symm k1n)]
    refine aO hl2 _ _ _ ?_
    rw[<-hH2]
    exact ar
   have aak:H9 l=some (.tup ((kk p.1).map kV)):=by
    have lk:∀{x:Addr}{o:HO},H x=some o->l≠x:=fun hx z=>by rw[z,hx]at hl;cases hl
    rw[<-Ph,ai (lk c.hla)]
    refine Pg _ _ ?_
    rw[<-Le,ai (lk c.xy)]
    refine MO _ _ ?_
    rw[<-Ld,ai (lk c.hkn)]
    refine aO hl2 _ _ _ ?_
    rw[<-hH2,ai (lk c.xU)]
    exact hkey
   have ZZ:H9 l2=some (.lst (p.1.map V.int)):=by
    have lk:∀{x:Addr}{o:HO},H x=some o->l2≠x:=fun hx z=>by rw[z,hx]at Ue;cases Ue
    rw[<-Ph,ai (lk c.hla)]
    refine Pg _ _ ?_
    rw[<-Le,ai (lk c.xy)]
    refine MO _ _ ?_
    rw[<-Ld,ai (lk c.hkn)]
    exact ar
   have ZW:H9 A.kn=some (.lst (A.ks.map V.ref++[.ref l2])):=by
    rw[<-Ph,ai n2]
    refine Pg _ _ ?_
    rw[<-Le,ai n1]
    refine MO _ _ ?_
    rw[<-Ld]
    exact ar
   have ZX:H9 A.fi=some (.lst ((kn.map fun p=>V.int (uJ p.2))++[V.int (uJ p.2)])):=by
    rw[<-Ph,ai n4]
    refine Pg _ _ ?_
    rw[<-Le]
    exact ar
   have ZY:H9 A.la=some (.lst ((kn.map fun p=>V.int (uJ p.1))++[V.int (uJ p.1)])):=by
    rw[<-Ph]
    exact ar
   have xV:∀j,du (putK nu (kk p.1) (.int (kn.length:Int))) j=if j=kk p.1 then some (.int (kn.length:Int))else du nu j:=fun j=>jO nu (kk p.1) j _
   have c9:=c.add hm iv Ue XC XD ZW ZX ZY ZZ keep
   refine⟨_,rfl,a,C,A.dx,_,_,rfl,XC,T.cl,T.nu,DS,_,rfl,A.nu,.int (kn.length:Int),rfl,?_,?_⟩
   ·have:=mx.t (k:=kk p.1) XD aak
    rw[xV,if_pos rfl]at this
    exact this
   ·refine k kn.length H9 _ [p] _ c9 (by simp) ⟨fr9.kp,fun x hx=>?_,fr9.gr⟩ rfl
    have Ii:x∈a::(A.hd++(A.ks++[l2])):=hx
    rw[<-List.append_assoc,<-cons_append]at Ii
    rcases mem_append.mp Ii with h|h
    ·exact .inl h
    ·have:x=l2:=by simpa using h
     rw[this];exact .inr Ue
end
end DL.oH
namespace DL.oH
open PySem PySem.Spec PyProof.Rows L2 DL
abbrev JR:Stmt:=inClass (top 20) 2
def Pj(C:Addr):Sp:=fun vs H Q _=>∃(a:Addr)(A:Ad)(z w:Int)(n:Nat)(kn:List RP)(ln:List Int)(B:Nat)(nu sh lo ke:List (List Key×V))(p:RP)(i j:Nat),
 vs=[.ref a,.int i,.int ((j:Int)+1)]/\hU C H a A (uv z w) n kn ln B nu sh lo ke/\n<=7/\B+1<1000000/\kn[i]?=some p/\j+1<n/\
 ∀(i':Nat)(H':Hp)(A':Ad)(mo:List RP)(Cz S2:List (List Key×V)),hU C H' a A' (uv z w) n (kn++mo) ln (B+2) Cz S2 lo ke->(kn++mo)[i']?=some (qB p j)->ie H H' (a::A.all) (a::A'.all)->A'.li=A.li->Q (.int i') H'
section
variable{P:Program}{w:World}{K:PySem.W.Frag}{mg:Str->Option Value}{base:Heap}
theorem sc2:aD ["self","number","k","step"] ["self","number","k"] (ae JR):=⟨rfl,rfl,rfl,by decide +kernel,rfl,by decide +kernel,by decide +kernel⟩
theorem Wm{f C fN:Addr}{fd JS:FuncData}(F:z8 K "without_first" "Comb.without_first" JR f fd)(T:Lc K mg C)(t:Tb K mg)
  (mN:Meth K C "number_of" fN)(bN:Binds K JS ["self","row"] [])(GN:cu P w K mg base kC 3 fN JS ["self","row"] (AZ K C))
  (G_x:mB P w K mg base 2 t.cG t.cH ["row","k"] cF):cu P w K mg base kC 4 f fd ["self","number","k"] (Pj C):=by
 refine F.ok sc2 (fun vs H Q E h=>?_) (fun cdv A outer s H vs Q E hr h=>?_)
 ·obtain⟨a,A,z,w,n,kn,ln,B,nu,sh,lo,ke,p,i,j,rfl,_⟩:=h
  rfl
 ·obtain⟨a,A,z,w,n,kn,ln,B,nu,sh,lo,ke,p,i,j,rfl,c,hn,hB,hi,hj,k⟩:=h
  have hu:=qM hr
  refine⟨_,aF (dq (i:=3) sc2.nd rfl (Or.inl rfl) (sJ (aB (pv 1) (aB (pv 2) aN))))
   (aF (ud (BA (sP hu (pv 3) (bD (pv 0) rfl)))
    (bU (uX hu (bD (pv 0) rfl) (pv 3) (iN (pv 0) T.cl mN GN (hr.mono (by decide)) bN .nil nj (aB (dZ (E:=fun _ _ _=>False) G_x (hr.mono (by decide)) (by rfl) t.bJ.m t.bJ.F.kp t.bJ.b .nil kG (aB (ik dG (bD (pv 0) rfl) (pv 1) (fun _ _=>rfl)) (aB (pv 2) aN))) aN)) rfl)) ky)
   (bU (lg (yX hu (bD (pv 0) rfl) (pv 3) (fun _ _=>rfl))))),?_⟩
  refine⟨_,rfl,_,rfl,(by show 2<=sizeLine;decide),fun l hl=>?_⟩
  have s1:aM H (upd H l (.tup [.int i,.int ((j:Int)+1)])):=aO hl _
  have c1:=c.same s1
  have hkey:(upd H l (.tup [.int i,.int ((j:Int)+1)])) l=some (.tup (([.inl (i:Int),.inl ((j:Int)+1)]:List Key).map kV)):=ar
  have zC:=ie.same s1 (a::A.all)
  have Wn:l∉a::A.all:=fun hx=>by
   obtain⟨o,ho⟩:=c.there hx
   rw[hl]at ho
   cases ho
  generalize hH1:upd H l (.tup [.int i,.int ((j:Int)+1)])=H1 at s1 c1 hkey zC
  refine⟨_,rfl,_,rfl,a,C,A.dx,_,_,rfl,c1.ob,T.cl,T.sh,DT,A.sh,_,rfl,mx.t c1.hsh hkey,_,rfl,?_⟩
  have ej:((j:Int)+1-1).toNat=j:=by omega
  cases hv:du sh ([.inl (i:Int),.inl ((j:Int)+1)]:List Key)with
  |some v=>
   refine sN ?_
   obtain⟨j',p',h1,h2,rfl⟩:=c.s1 i ((j:Int)+1) v hv
   rw[hi]at h1
   cases h1
   rw[ej]at h2
   refine⟨_,rfl,a,C,A.dx,_,_,rfl,c1.ob,T.cl,T.sh,DT,_,rfl,A.sh,.int j',rfl,?_,?_⟩
   ·have:=mx.t (k:=[.inl (i:Int),.inl ((j:Int)+1)]) c1.hsh hkey
    rw[hv]at this
    exact this
   ·exact k j' H1 A [] nu sh (by rw[append_nil];exact c1.more (by omega)) (by rw[append_nil];exact h2) zC rfl
  |none=>
   refine uD ?_
   have iv:=c.rw p (mem_of_getElem? hi)
   have Wo:i<A.ks.length:=by rw[c.AQ];exact(List.getElem?_eq_some_iff.mp hi).1
   have hb1:=c1.hks i A.ks[i] p (getElem?_eq_getElem Wo) hi
   refine⟨_,rfl,a,A.dx,_,rfl,c1.ob,rfl,_,rfl,a,C,A.dx,_,_,rfl,c1.ob,T.cl,T.kn,yv,_,rfl,A.kn,A.ks.map V.ref,i,.ref A.ks[i],rfl,rfl,cX.of c1.hkn,iO (by rw[getElem?_map,getElem?_eq_getElem Wo];rfl),_,rfl,fun _=>True,[.lst (aK p.1),.int ((j:Int)+1)],⟨_,_,rfl,⟨_,_,rfl,.inl ⟨trivial,.inl hb1⟩,bZ _⟩,⟨_,_,rfl,rfl,rfl⟩⟩,?_⟩
   rw[Jj iv hn hj]
   intro q ws H2 s2 hq2 O7 ML
   have ew:=fQ ML
   subst ew
   have c2:=c1.same s2
   have hqF:q∉a::A.all:=fun hx=>by
    obtain⟨o,ho⟩:=c1.there hx
    rw[hq2]at ho
    cases ho
   refine⟨a,A,uv z w,n,kn,ln,B,nu,sh,lo,ke,qB p j,.ref q,rfl,c2,hn,by omega,iv.step hj,⟨q,_,rfl,.inl ⟨hqF,.inl O7⟩,bZ _⟩,fun i' H3 A' mo Cz c3 S3 sH eli=>?_⟩
   have rX:H3 l=some (.tup (([.inl (i:Int),.inl ((j:Int)+1)]:List Key).map kV)):=sH.kp l _ Wn (s2 _ _ hkey)
   have hz:=c3.z
   refine⟨_,rfl,a,C,A'.dx,_,_,rfl,c3.ob,T.cl,T.sh,DT,_,rfl,A'.sh,_,rfl,Ab.t c3.hsh rX (Nat.lt_of_le_of_lt (show sh.length<=1000001 by omega) (by decide)),?_⟩
   have xW:(kn++mo)[i]?=some p:=bW hi
   have c4:=c3.SM (i:=i) (j:=i') (k:=(j:Int)+1) xW (by rw[ej];exact S3)
   have hl4:A'.sh≠l:=fun zz=>by rw[<-zz,c3.hsh]at rX;cases rX
   refine⟨_,rfl,a,C,A'.dx,_,_,rfl,c4.ob,T.cl,T.sh,DT,_,rfl,A'.sh,.int i',rfl,?_,?_⟩
   ·have hk4:(upd H3 A'.sh (.dT (putK sh [.inl (i:Int),.inl ((j:Int)+1)] (.int i')))) l=some (.tup (([.inl (i:Int),.inl ((j:Int)+1)]:List Key).map kV)):=by rw[ai (Ne.symm hl4)];exact rX
    have:=mx.t (k:=[.inl (i:Int),.inl ((j:Int)+1)]) c4.hsh hk4
    rw[jO,if_pos rfl]at this
    exact this
   ·refine k i' _ A' mo Cz _ c4 S3 ?_ eli
    exact((zC.trans (ie.same s2 _)).trans sH).trans (ie.upd (mem_cons_of_mem _ (mem_append_left _ (by simp[Ad.hd]))) _)
end
abbrev JT:Stmt:=inClass (top 20) 3
def Pk(C:Addr):Sp:=fun vs H Q _=>∃(a:Addr)(A:Ad)(z w:Int)(n:Nat)(kn:List RP)(ln:List Int)(B:Nat)(nu sh lo ke:List (List Key×V))(p:RP)(i j:Nat),
 vs=[.ref a,.int i,.int ((j:Int)+1)]/\hU C H a A (uv z w) n kn ln B nu sh lo ke/\n<=7/\B+1<1000000/\kn[i]?=some p/\j+1<n/\
 ∀(i':Nat)(H':Hp)(A':Ad)(mo:List RP)(Cz S4:List (List Key×V)),hU C H' a A' (uv z w) n (kn++mo) ln (B+2) Cz sh S4 ke->(kn++mo)[i']?=some (nv p j)->ie H H' (a::A.all) (a::A'.all)->A'.li=A.li->Q (.int i') H'
section
variable{P:Program}{w:World}{K:PySem.W.Frag}{mg:Str->Option Value}{base:Heap}
theorem sc3:aD ["self","number","k","step"] ["self","number","k"] (ae JT):=⟨rfl,rfl,rfl,by decide +kernel,rfl,by decide +kernel,by decide +kernel⟩
theorem Wq{f C fN:Addr}{fd JS:FuncData}(F:z8 K "with_last" "Comb.with_last" JT f fd)(T:Lc K mg C)(t:Tb K mg)
  (mN:Meth K C "number_of" fN)(bN:Binds K JS ["self","row"] [])(GN:cu P w K mg base kC 3 fN JS ["self","row"] (AZ K C))
  (G_x:mB P w K mg base 1 t.bp t.bq ["row","k"] aQ):cu P w K mg base kC 4 f fd ["self","number","k"] (Pk C):=by
 refine F.ok sc3 (fun vs H Q E h=>?_) (fun cdv A outer s H vs Q E hr h=>?_)
 ·obtain⟨a,A,z,w,n,kn,ln,B,nu,sh,lo,ke,p,i,j,rfl,_⟩:=h
  rfl
 ·obtain⟨a,A,z,w,n,kn,ln,B,nu,sh,lo,ke,p,i,j,rfl,c,hn,hB,hi,hj,k⟩:=h
  have hu:=qM hr
  refine⟨_,aF (dq (i:=3) sc3.nd rfl (Or.inl rfl) (sJ (aB (pv 1) (aB (pv 2) aN))))
   (aF (ud (BA (sP hu (pv 3) (bD (pv 0) rfl)))
    (bU (uX hu (bD (pv 0) rfl) (pv 3) (iN (pv 0) T.cl mN GN (hr.mono (by decide)) bN .nil nj (aB (dZ (E:=fun _ _ _=>False) G_x (hr.mono (by decide)) (by rfl) t.aS.m t.aS.F.kp t.aS.b .nil kG (aB (ik dG (bD (pv 0) rfl) (pv 1) (fun _ _=>rfl)) (aB (pv 2) aN))) aN)) rfl)) ky)
   (bU (lg (yX hu (bD (pv 0) rfl) (pv 3) (fun _ _=>rfl))))),?_⟩
  refine⟨_,rfl,_,rfl,(by show 2<=sizeLine;decide),fun l hl=>?_⟩
  have s1:aM H (upd H l (.tup [.int i,.int ((j:Int)+1)])):=aO hl _
  have c1:=c.same s1
  have hkey:(upd H l (.tup [.int i,.int ((j:Int)+1)])) l=some (.tup (([.inl (i:Int),.inl ((j:Int)+1)]:List Key).map kV)):=ar
  have zC:=ie.same s1 (a::A.all)
  have Wn:l∉a::A.all:=fun hx=>by
   obtain⟨o,ho⟩:=c.there hx
   rw[hl]at ho
   cases ho
  generalize hH1:upd H l (.tup [.int i,.int ((j:Int)+1)])=H1 at s1 c1 hkey zC
  refine⟨_,rfl,_,rfl,a,C,A.dx,_,_,rfl,c1.ob,T.cl,T.lo,DU,A.lo,_,rfl,mx.t c1.hlo hkey,_,rfl,?_⟩
  have ej:((j:Int)+1-1).toNat=j:=by omega
  cases hv:du lo ([.inl (i:Int),.inl ((j:Int)+1)]:List Key)with
  |some v=>
   refine sN ?_
   obtain⟨j',p',h1,h2,rfl⟩:=c.l1 i ((j:Int)+1) v hv
   rw[hi]at h1
   cases h1
   rw[ej]at h2
   refine⟨_,rfl,a,C,A.dx,_,_,rfl,c1.ob,T.cl,T.lo,DU,_,rfl,A.lo,.int j',rfl,?_,?_⟩
   ·have:=mx.t (k:=[.inl (i:Int),.inl ((j:Int)+1)]) c1.hlo hkey
    rw[hv]at this
    exact this
   ·exact k j' H1 A [] nu lo (by rw[append_nil];exact c1.more (by omega)) (by rw[append_nil];exact h2) zC rfl
  |none=>
   refine uD ?_
   have iv:=c.rw p (mem_of_getElem? hi)
   have Wo:i<A.ks.length:=by rw[c.AQ];exact(List.getElem?_eq_some_iff.mp hi).1
   have hb1:=c1.hks i A.ks[i] p (getElem?_eq_getElem Wo) hi
   refine⟨_,rfl,a,A.dx,_,rfl,c1.ob,rfl,_,rfl,a,C,A.dx,_,_,rfl,c1.ob,T.cl,T.kn,yv,_,rfl,A.kn,A.ks.map V.ref,i,.ref A.ks[i],rfl,rfl,cX.of c1.hkn,iO (by rw[getElem?_map,getElem?_eq_getElem Wo];rfl),_,rfl,fun _=>True,[.lst (aK p.1),.int ((j:Int)+1)],⟨_,_,rfl,⟨_,_,rfl,.inl ⟨trivial,.inl hb1⟩,bZ _⟩,⟨_,_,rfl,rfl,rfl⟩⟩,?_⟩
   rw[tH (by rw[iv.lr];exact hn) (by rw[iv.lr];exact hj)]
   intro q ws H2 s2 hq2 O7 ML
   have ew:=fQ ML
   subst ew
   have c2:=c1.same s2
   have hqF:q∉a::A.all:=fun hx=>by
    obtain⟨o,ho⟩:=c1.there hx
    rw[hq2]at ho
    cases ho
   refine⟨a,A,uv z w,n,kn,ln,B,nu,sh,lo,ke,nv p j,.ref q,rfl,c2,hn,by omega,(iv.symm.step hj).symm,⟨q,_,rfl,.inl ⟨hqF,.inl O7⟩,bZ _⟩,fun i' H3 A' mo Cz c3 S3 sH eli=>?_⟩
   have rX:H3 l=some (.tup (([.inl (i:Int),.inl ((j:Int)+1)]:List Key).map kV)):=sH.kp l _ Wn (s2 _ _ hkey)
   have hz:=c3.z
   refine⟨_,rfl,a,C,A'.dx,_,_,rfl,c3.ob,T.cl,T.lo,DU,_,rfl,A'.lo,_,rfl,Ab.t c3.hlo rX (Nat.lt_of_le_of_lt (show lo.length<=1000001 by omega) (by decide)),?_⟩
   have xW:(kn++mo)[i]?=some p:=bW hi
   have c4:=c3.SN (i:=i) (j:=i') (k:=(j:Int)+1) xW (by rw[ej];exact S3)
   have hl4:A'.lo≠l:=fun zz=>by rw[<-zz,c3.hlo]at rX;cases rX
   refine⟨_,rfl,a,C,A'.dx,_,_,rfl,c4.ob,T.cl,T.lo,DU,_,rfl,A'.lo,.int i',rfl,?_,?_⟩
   ·have hk4:(upd H3 A'.lo (.dT (putK lo [.inl (i:Int),.inl ((j:Int)+1)] (.int i')))) l=some (.tup (([.inl (i:Int),.inl ((j:Int)+1)]:List Key).map kV)):=by rw[ai (Ne.symm hl4)];exact rX
    have:=mx.t (k:=[.inl (i:Int),.inl ((j:Int)+1)]) c4.hlo hk4
    rw[jO,if_pos rfl]at this
    exact this
   ·refine k i' _ A' mo Cz _ c4 S3 ?_ eli
    exact((zC.trans (ie.same s2 _)).trans sH).trans (ie.upd (mem_cons_of_mem _ (mem_append_left _ (by simp[Ad.hd]))) _)
end
end DL.oH
namespace DL.oH
open PySem PySem.Spec PyProof.Rows L2 DL
abbrev JU:Stmt:=inClass (top 20) 4
def Pn(C:Addr):Sp:=fun vs H Q _=>∃(a:Addr)(A:Ad)(z w:Int)(n:Nat)(kn:List RP)(ln:List Int)(B:Nat)(nu sh lo ke:List (List Key×V))(p q:RP)(i j:Nat),
 vs=[.ref a,.int i,.int j]/\hU C H a A (uv z w) n kn ln B nu sh lo ke/\n<=7/\B+300<1000000/\kn[i]?=some p/\kn[j]?=some q/\
 ∀(t:Addr)(i' j':Nat)(H':Hp)(A':Ad)(mo:List RP)(Cz S2 S4:List (List Key×V)),hU C H' a A' (uv z w) n (kn++mo) ln (B+200) Cz S2 S4 ke->(kn++mo)[i']?=some (cJ 50 p q).1->(kn++mo)[j']?=some (cJ 50 p q).2->
  H t=none->H' t=some (.tup [.int i',.int j'])->ie H H' (a::A.all) (a::A'.all)->A'.li=A.li->Q (.ref t) H'
section
variable{P:Program}{w:World}{K:PySem.W.Frag}{mg:Str->Option Value}{base:Heap}
theorem Uj:aD ["self","one","other","free","k"] ["self","one","other"] (ae JU):=⟨rfl,rfl,rfl,by decide +kernel,rfl,by decide +kernel,by decide +kernel⟩
theorem Wr{f C fS fL:Addr}{fd Po fdL:FuncData}(F:z8 K "slide" "Comb.slide" JU f fd)(T:Lc K mg C)
  (mS:Meth K C "without_first" fS)(bS:Binds K Po ["self","number","k"] [])(GS:cu P w K mg base kC 4 fS Po ["self","number","k"] (Pj C))
  (mL:Meth K C "with_last" fL)(bL:Binds K fdL ["self","number","k"] [])(GL:cu P w K mg base kC 4 fL fdL ["self","number","k"] (Pk C)):cu P w K mg base kC 5 f fd ["self","one","other"] (Pn C):=by
 refine F.ok Uj (fun vs H Q E h=>?_) (fun cdv A outer s H vs Q E hr h=>?_)
 ·obtain⟨a,A,z,w,n,kn,ln,B,nu,sh,lo,ke,p,q,i,j,rfl,_⟩:=h
  rfl
 ·obtain⟨a,A,z,w,n,kn,ln,B,nu,sh,lo,ke,p,q,i,j,rfl,c,hn,hB,hi,hj,k⟩:=h
  have hu:=qM hr
  refine⟨_,aF (dq (i:=3) Uj.nd rfl (Or.inl rfl) (qK Ha (ik dG (bD (pv 0) rfl) (pv 2) (fun _ _=>rfl)) (C1 Hb (ik dG (bD (pv 0) rfl) (pv 1) (fun _ _=>rfl)))))
   (aF (vK PassesOwn.never (jB gj (pv 3) gA (aE _))
    (aF (dq (i:=4) Uj.nd rfl (Or.inl rfl) (yW PySem.F.plainAttrs_int PySem.F.slot_int_bit_length PySem.F.type_int_bit_length MD (pv 3)))
    (aF (dq (i:=1) Uj.nd rfl (Or.inl rfl) (iN (pv 0) T.cl mL GL (hr.mono (by decide)) bL .nil nj (aB (pv 1) (aB (pv 4) aN))))
    (aF (dq (i:=2) Uj.nd rfl (Or.inl rfl) (iN (pv 0) T.cl mS GS (hr.mono (by decide)) bS .nil nj (aB (pv 2) (aB (pv 4) aN))))
    (bU (dq (i:=3) Uj.nd rfl (Or.inl rfl) (qK Ha (ik dG (bD (pv 0) rfl) (pv 2) (fun _ _=>rfl)) (C1 Hb (ik dG (bD (pv 0) rfl) (pv 1) (fun _ _=>rfl))))))))))
   (bU (lg (sJ (aB (pv 1) (aB (pv 2) aN)))))),?_⟩
  have XI:∀{H2:Hp}{A2:Ad}{Pf:List RP}{B2:Nat}{vB w6 lo2:List (List Key×V)}{i2:Nat}{p2:RP},hU C H2 a A2 (uv z w) n Pf ln B2 vB w6 lo2 ke->Pf[i2]?=some p2->ig (Pf.map fun p=>V.int (uJ p.2)) (i2:Int)=some (.int (uJ p2.2))/\ig (Pf.map fun p=>V.int (uJ p.1)) (i2:Int)=some (.int (uJ p2.1)):=fun c2 h2=>
   ⟨iO (by rw[getElem?_map,h2];rfl),iO (by rw[getElem?_map,h2];rfl)⟩
  have l7:∀{x:RP},Iv n x.1 x.2->x.1.length<=7/\x.2.length<=7:=fun h=>⟨by rw[h.lr];exact hn,by rw[h.ls];exact hn⟩
  have ivp:=c.rw p (mem_of_getElem? hi)
  have ivq:=c.rw q (mem_of_getElem? hj)
  refine⟨_,rfl,a,C,A.dx,_,_,rfl,c.ob,T.cl,T.fi,Jl,_,rfl,A.fi,_,j,_,rfl,rfl,cX.of c.xy,(XI c hj).1,_,rfl,a,C,A.dx,_,_,rfl,c.ob,T.cl,T.la,Jm,_,rfl,A.la,_,i,_,rfl,rfl,cX.of c.hla,(XI c hi).2,_,rfl,_,_,rfl,rfl,?_⟩
  dsimp only
  rw[DV (l7 ivp).1 (l7 ivq).2]
  refine⟨fun m σ H2=>∃(A2:Ad)(mo:List RP)(vB w6 lo2:List (List Key×V))(i2 j2:Nat)(p2 q2:RP)(s:Nat)(kv:Option V),σ=[some (.ref a),some (.int i2),some (.int j2),some (.int (Cq (km p2 q2))),kv]/\hU C H2 a A2 (uv z w) n (kn++mo) ln (B+4*s) vB w6 lo2 ke/\
    (kn++mo)[i2]?=some p2/\(kn++mo)[j2]?=some q2/\cJ (50-s) p2 q2=cJ 50 p q/\s<=fU p2.1/\m=50-s/\ie H H2 (a::A.all) (a::A2.all)/\A2.li=A.li,⟨50,A,[],nu,sh,lo,i,j,p,q,0,none,rfl,by rw[append_nil];exact c,by rw[append_nil];exact hi,by rw[append_nil];exact hj,rfl,zero_le _,rfl,ie.refl _ _,rfl⟩,?_⟩
  rintro m σ H2 ⟨A2,mo,vB,w6,lo2,i2,j2,p2,q2,s,kv,rfl,c2,hi2,MP,hs,hsc,hm,CA,Uk⟩
  have K8:=c2.rw p2 (mem_of_getElem? hi2)
  have K9:=c2.rw q2 (mem_of_getElem? MP)
  have aeS:=tJ hn K8
  refine⟨_,rfl,_,_,rfl,rfl,_,rfl,?_⟩
  dsimp only
  rw[Jq (l7 K8).1 (l7 K9).2]
  cases hl:(km p2 q2).getLast? with
  |none=>
   refine sN ?_
   rw[lX _ hl]at hs
   refine⟨_,rfl,_,rfl,(by show 2<=sizeLine;decide),fun t ht=>?_⟩
   have st:=aO ht (.tup [V.int i2,V.int j2])
   refine k t i2 j2 _ A2 mo vB w6 lo2 ((c2.same st).more (by omega)) (by rw[<-hs];exact hi2) (by rw[<-hs];exact MP) (CA.gr t ht) ar (CA.trans (ie.same st _)) Uk
  |some kk'=>
   refine uD ?_
   obtain⟨j',rfl,Ce,hlt,_⟩:=mG K8 K9 (mem_of_getLast? hl)
   have hup:=Js K8 Ce hlt
   have ivu:=bQ K8 Ce
   have aeT:=tJ hn ivu
   have hsl:cJ (50-(s+1)) (nv p2 j') (qB q2 j')=cJ 50 p q:=by
    rw[<-hs,show 50-s=(50-(s+1))+1 by omega,lW _ hl,show((j':Int)+1-1).toNat=j' by omega]
   refine⟨fun σ' H'=>∃m'<m,∃(A2:Ad)(mo:List RP)(vB w6 lo2:List (List Key×V))(i2 j2:Nat)(p2 q2:RP)(s:Nat)(kv:Option V),σ'=[some (.ref a),some (.int i2),some (.int j2),some (.int (Cq (km p2 q2))),kv]/\hU C H' a A2 (uv z w) n (kn++mo) ln (B+4*s) vB w6 lo2 ke/\
    (kn++mo)[i2]?=some p2/\(kn++mo)[j2]?=some q2/\cJ (50-s) p2 q2=cJ 50 p q/\s<=fU p2.1/\m'=50-s/\ie H H' (a::A.all) (a::A2.all)/\A2.li=A.li,fun σ' H' h=>h,?_⟩
   refine⟨_,rfl,(by first|exact rfl|exact trivial),_,rfl,rfl,?_⟩
   dsimp only
   rw[Jr (l7 K8).1 (l7 K9).2 hl]
   refine⟨_,rfl,a,A2.dx,_,rfl,c2.ob,rfl,_,rfl,_,rfl,a,A2,z,w,n,kn++mo,ln,B+4*s,vB,w6,lo2,ke,p2,i2,j',rfl,c2,hn,by omega,hi2,Ce,fun i3 H3 A3 XJ nu3 XM c3 S3 sH Ws=>?_⟩
   have hj3:(kn++mo++XJ)[j2]?=some q2:=bW MP
   refine⟨_,rfl,a,A3.dx,_,rfl,c3.ob,rfl,_,rfl,_,rfl,a,A3,z,w,n,kn++mo++XJ,ln,B+4*s+2,nu3,w6,XM,ke,q2,j2,j',rfl,c3,hn,by omega,hj3,Ce,fun j4 H4 A4 Ec Wt Wu c4 Wv S5 el4=>?_⟩
   have S6:(kn++mo++XJ++Ec)[i3]?=some (nv p2 j'):=bW S3
   refine⟨_,rfl,a,C,A4.dx,_,_,rfl,c4.ob,T.cl,T.fi,Jl,_,rfl,A4.fi,_,j4,_,rfl,rfl,cX.of c4.xy,(XI c4 Wv).1,_,rfl,a,C,A4.dx,_,_,rfl,c4.ob,T.cl,T.la,Jm,_,rfl,A4.la,_,i3,_,rfl,rfl,cX.of c4.hla,(XI c4 S6).2,_,rfl,_,_,rfl,rfl,?_⟩
   have iva:=dY K9 Ce
   dsimp only
   rw[DV (l7 ivu).1 (l7 iva).2]
   rw[List.append_assoc,List.append_assoc]at c4 S6 Wv
   refine⟨50-(s+1),by omega,A4,mo++(XJ++Ec),Wt,Wu,XM,i3,j4,nv p2 j',qB q2 j',s+1,_,rfl,?_,S6,Wv,hsl,by omega,rfl,(CA.trans sH).trans S5,el4.trans (Ws.trans Uk)⟩
   rw[show B+4*(s+1)=B+4*s+2+2 by omega]
   exact c4
end
end DL.oH
namespace DL.oH
open PySem PySem.Spec PyProof.Rows L2 DL
abbrev JV:Stmt:=inClass (top 20) 5
def Pp(C:Addr):Sp:=fun vs H Q _=>∃(a:Addr)(A:Ad)(z w:Int)(n:Nat)(kn:List RP)(ln:List Int)(B:Nat)(nu sh lo ke:List (List Key×V))(p q:RP)(i j:Nat),
 vs=[.ref a,.int i,.int j]/\hU C H a A (uv z w) n kn ln B nu sh lo ke/\n<=7/\B+400<1000000/\kn[i]?=some p/\kn[j]?=some q/\
 ∀(t:Addr)(i' j':Nat)(H':Hp)(A':Ad)(mo:List RP)(Cz S2 S4 ke':List (List Key×V)),hU C H' a A' (uv z w) n (kn++mo) ln (B+201) Cz S2 S4 ke'->(kn++mo)[i']?=some (cJ 50 p q).1->(kn++mo)[j']?=some (cJ 50 p q).2->
  H' t=some (.tup [.int i',.int j'])->ie H H' (a::A.all) (a::A'.all)->A'.li=A.li->Q (.ref t) H'
section
variable{P:Program}{w:World}{K:PySem.W.Frag}{mg:Str->Option Value}{base:Heap}
theorem XO:aD ["self","one","other","pair","found"] ["self","one","other"] (ae JV):=⟨rfl,rfl,rfl,by decide +kernel,rfl,by decide +kernel,by decide +kernel⟩
theorem Ww{f C fS:Addr}{fd Po:FuncData}(F:z8 K "slide_kept" "Comb.slide_kept" JV f fd)(T:Lc K mg C)(t:Tb K mg)
  (mS:Meth K C "slide" fS)(bS:Binds K Po ["self","one","other"] [])(GS:cu P w K mg base kC 5 fS Po ["self","one","other"] (Pn C)):cu P w K mg base kC 6 f fd ["self","one","other"] (Pp C):=by
 refine F.ok XO (fun vs H Q E h=>?_) (fun cdv A outer s H vs Q E hr h=>?_)
 ·obtain⟨a,A,z,w,n,kn,ln,B,nu,sh,lo,ke,p,q,i,j,rfl,_⟩:=h
  rfl
 ·obtain⟨a,A,z,w,n,kn,ln,B,nu,sh,lo,ke,p,q,i,j,rfl,c,hn,hB,hi,hj,k⟩:=h
  have hu:=qM hr
  refine⟨_,aF (dq (i:=3) XO.nd rfl (Or.inl rfl) (sJ (aB (pv 1) (aB (pv 2) aN))))
   (aF (dq (i:=4) XO.nd rfl (Or.inl rfl) (Hq hu (bD (pv 0) rfl) (pv 3) ⟨rfl,rfl,rfl,rfl⟩))
   (aF (ud (jB Hd (pv 4) GY (aE _))
    (aF (dq (i:=4) XO.nd rfl (Or.inl rfl) (iN (pv 0) T.cl mS GS (hr.mono (by decide)) bS .nil nj (aB (pv 1) (aB (pv 2) aN))))
    (bU (ud (jB qL (i7 F6 (by rfl) T.XF dJ (aB (bD (pv 0) rfl) aN)) (Lp (by rfl) t.rW (v:=.int 200000) ⟨_,rfl⟩) (aE _))
     (bU (uX hu (bD (pv 0) rfl) (pv 3) (pv 4) rfl)) ky))) ky)
   (bU (lg (pv 4))))),?_⟩
  refine⟨_,rfl,_,rfl,(by show 2<=sizeLine;decide),fun l hl=>?_⟩
  have s1:aM H (upd H l (.tup [.int i,.int j])):=aO hl _
  have c1:=c.same s1
  have hkey:(upd H l (.tup [.int i,.int j])) l=some (.tup (([.inl (i:Int),.inl (j:Int)]:List Key).map kV)):=ar
  have zC:=ie.same s1 (a::A.all)
  have Wn:l∉a::A.all:=fun hx=>by
   obtain⟨o,ho⟩:=c.there hx
   rw[hl]at ho
   cases ho
  generalize hH1:upd H l (.tup [.int i,.int j])=H1 at s1 c1 hkey zC
  refine⟨_,rfl,a,C,A.dx,_,_,rfl,c1.ob,T.cl,T.ke,Jo,A.ke,rfl,.inr ⟨_,.inl c1.hke⟩,_,rfl,_,mx.t c1.hke hkey,?_⟩
  cases hv:du ke ([.inl (i:Int),.inl (j:Int)]:List Key)with
  |some v=>
   obtain⟨t',i',j',p',q',h1,h2,rfl,h4,h5,h6⟩:=c1.k1 i j v hv
   rw[hi]at h1
   rw[hj]at h2
   cases h1
   cases h2
   refine⟨_,rfl,rfl,_,rfl,?_⟩
   rw[decide_eq_false (show¬((some (V.ref t')).getD .non=.non)from fun zz=>nomatch zz)]
   refine sN ?_
   exact⟨_,rfl,k t' i' j' H1 A [] nu sh lo ke (by rw[append_nil];exact c1.more (by omega)) (by rw[append_nil];exact h5) (by rw[append_nil];exact h6) h4 zC rfl⟩
  |none=>
   refine⟨_,rfl,rfl,_,rfl,?_⟩
   rw[decide_eq_true (show((none:Option V).getD .non=.non)from rfl)]
   refine uD ?_
   refine⟨_,rfl,a,A.dx,_,rfl,c1.ob,rfl,_,rfl,_,rfl,a,A,z,w,n,kn,ln,B,nu,sh,lo,ke,p,q,i,j,rfl,c1,hn,by omega,hi,hj,fun t' i' j' H2 A2 mo vB w6 lo2 c2 hi2 MP htn XQ CA Uk=>?_⟩
   have hz:=c2.z
   have Wx:=zC.trans CA
   refine⟨_,rfl,a,C,A2.dx,_,_,rfl,c2.ob,T.cl,T.ke,Jo,A2.ke,_,rfl,c2.hke,_,_,rfl,rfl,_,rfl,?_⟩
   generalize decide ((ke.length:Int)<200000)=bb
   cases bb with
   |true=>
    refine uD ?_
    have Wy:H2 l=some (.tup (([.inl (i:Int),.inl (j:Int)]:List Key).map kV)):=CA.kp l _ Wn hkey
    refine⟨_,rfl,_,rfl,a,C,A2.dx,_,_,rfl,c2.ob,T.cl,T.ke,Jo,_,rfl,A2.ke,_,rfl,Ab.t c2.hke Wy (Nat.lt_of_le_of_lt (show ke.length<=1000001 by omega) (by decide)),?_⟩
    have c3:=c2.SQ (bW hi) (bW hj) XQ hi2 MP
    refine⟨_,rfl,k t' i' j' _ A2 mo vB w6 lo2 _ c3 hi2 MP ?_ (Wx.trans (ie.upd (mem_cons_of_mem _ (mem_append_left _ (by simp[Ad.hd]))) _)) Uk⟩
    rw[ai (bM XQ c2.hke (by intro zz;cases zz))]
    exact XQ
   |false=>
    refine sN ?_
    exact⟨_,rfl,k t' i' j' H2 A2 mo vB w6 lo2 ke (c2.more (by omega)) hi2 MP XQ Wx Uk⟩
end
end DL.oH
namespace DL.oH
open PySem PySem.Spec PyProof.Rows L2 DL
abbrev JW:Stmt:=inClass (top 20) 6
def Pq(K:PySem.W.Frag)(C:Addr):Sp:=fun vs H Q _=>∃(a:Addr)(A:Ad)(zn:Nat)(w:Int)(n:Nat)(kn:List RP)(ls:List Nat)(R:List RP)(B:Nat)(nu sh lo ke:List (List Key×V))(p:RP)(v:V),
 vs=[.ref a,v]/\hU C H a A (uv zn w) n kn (nI ls) B nu sh lo ke/\cQ kn ls R/\kn[zn]?=some (upTo n,upTo n)/\n<=7/\B+402*(R.length+1)<900000/\R.length<=1000/\Iv n p.1 p.2/\Is K (fun x=>x∉a::A.all) H (.lst (aK p.1)) v/\
 ∀(H':Hp)(A':Ad)(mo:List RP)(ls':List Nat)(Cz S2 S4 ke':List (List Key×V)),hU C H' a A' (uv zn w) n (kn++mo) (nI ls') (B+402*(R.length+1)) Cz S2 S4 ke'->cQ (kn++mo) ls' (eO n R p)->ie H H' (a::A.all) (a::A'.all)->Q .non H'
section
variable{P:Program}{w:World}{K:PySem.W.Frag}{mg:Str->Option Value}{base:Heap}
theorem Wz:aD ["self","row","line","place","pair"] ["self","row"] (ae JW):=⟨rfl,rfl,rfl,by decide +kernel,rfl,by decide +kernel,by decide +kernel⟩
theorem WA{f C fN fS:Addr}{fd JS Po:FuncData}(F:z8 K "put" "Comb.put" JW f fd)(T:Lc K mg C)
  (mN:Meth K C "number_of" fN)(bN:Binds K JS ["self","row"] [])(GN:cu P w K mg base kC 3 fN JS ["self","row"] (AZ K C))
  (mS:Meth K C "slide_kept" fS)(bS:Binds K Po ["self","one","other"] [])(GS:cu P w K mg base kC 6 fS Po ["self","one","other"] (Pp C)):cu P w K mg base kC 7 f fd ["self","row"] (Pq K C):=by
 refine F.ok Wz (fun vs H Q E h=>?_) (fun cdv A outer s H vs Q E hr h=>?_)
 ·obtain⟨a,A,zn,w,n,kn,ls,R,B,nu,sh,lo,ke,p,v,rfl,_⟩:=h
  rfl
 ·obtain⟨a,A,zn,w,n,kn,ls,R,B,nu,sh,lo,ke,p,v,rfl,c,hR,hzn,hn,hB,hRl,ivp,isr,k⟩:=h
  have hu:=qM hr
  refine⟨_,aF (dq (i:=2) Wz.nd rfl (Or.inl rfl) (bD (pv 0) rfl))
   (aF (gB (ug plainAttrs_list PySem.F.slot_list_append PySem.F.type_list_append fy (pv 2) (aB (iN (pv 0) T.cl mN GN (hr.mono (by decide)) bN .nil nj (aB (pv 1) aN)) aN)) rfl)
   (aF (dq (i:=3) Wz.nd rfl (Or.inl rfl) (qK bX (i7 mm (by rfl) T.XF dJ (aB (pv 2) aN)) gA))
   (aF (vK PassesOwn.never (jB gj (pv 3) gA (aE _))
    (aF (dq (i:=4) Wz.nd rfl (Or.inl rfl) (iN (pv 0) T.cl mS GS (hr.mono (by decide)) bS .nil nj (aB (ik dG (pv 2) (qK bX (pv 3) gA) (fun _ _=>rfl)) (aB (ik dG (pv 2) (pv 3) (fun _ _=>rfl)) aN))))
    (aF (ud (jB Hc (ik yU (pv 4) gA (fun _ _=>rfl)) (ik dG (pv 2) (qK bX (pv 3) gA) (fun _ _=>rfl)) (aE _)) (bU G1) ky)
    (aF (BD (ik yU (pv 4) gA (fun _ _=>rfl)) (BC (pv 2) (qK bX (pv 3) gA) set_list (by intro _;rfl)) rfl rfl rfl)
    (aF (BD (ik yU (pv 4) gA (fun _ _=>rfl)) (BC (pv 2) (pv 3) set_list (by intro _;rfl)) rfl rfl rfl)
    (bU (BE (i:=3) Wz.nd rfl (Or.inl rfl) gA Qk)))))))
   (bU (ud (jB Hc (ik dG (pv 2) (C1 jj gA) (fun _ _=>rfl)) (bD (pv 0) rfl) (aE _))
    (bU (gB (yW plainAttrs_list slot_list_pop type_list_pop Hl (pv 2)) rfl)) ky))))),?_⟩
  refine⟨_,rfl,a,C,A.dx,_,_,rfl,c.ob,T.cl,T.li,AR,?_⟩
  refine⟨_,rfl,.inl ⟨rfl,_,cX.of c.hli⟩,_,rfl,a,A.dx,_,rfl,c.ob,rfl,_,rfl,a,A,uv zn w,n,kn,nI ls,B,nu,sh,lo,ke,p,v,rfl,c,hn,by omega,ivp,isr,fun i1 H1 A1 WB WC c1 hi1 zC Ul=>?_⟩
  have hz:=c1.z
  have XA:=hR.len
  have big:∀{x:Nat},x<=1000001->x<sizeLine:=fun h=>Nat.lt_of_le_of_lt h (by decide)
  refine⟨A.li,(nI ls).map V.int,.int i1,rfl,rfl,by rw[<-Ul];exact c1.hli,by rw[length_map,ly];exact big (by omega),?_⟩
  have hR1:cQ (kn++WB) (ls++[i1]) (R++[p]):=hR.pre.app hi1
  have c2:=c1.AU hR1.li
  rw[SS,Ul]at c2
  have CA:ie H (upd H1 A.li (.lst ((nI ls).map V.int++[.int i1]))) (a::A.all) (a::A1.all):=zC.trans (ie.upd (by rw[<-Ul];exact mem_cons_of_mem _ (mem_append_left _ (by simp[Ad.hd]))) _)
  generalize upd H1 A.li (.lst ((nI ls).map V.int++[.int i1]))=H2 at c2 CA
  have aau:H2 A.li=some (.lst ((nI (ls++[i1])).map V.int)):=by rw[<-Ul];exact c2.hli
  refine⟨_,rfl,A.li,_,rfl,.inl (cX.of aau),_,_,rfl,rfl,?_⟩
  have epl:((((nI (ls++[i1])).map V.int).length:Nat):Int)-1=(R.length:Nat):=by
   rw[length_map,ly,length_append,length_singleton]
   omega
  dsimp only
  rw[epl]
  refine⟨fun m σ H2=>∃(A2:Ad)(mo:List RP)(vB w6 lo2 Lf:List (List Key×V))(WD:List Nat)(t:Nat)(cr:RP)(dn:List RP)(pr:Option V),σ=[some (.ref a),some v,some (.ref A.li),some (.int t),pr]/\hU C H2 a A2 (uv zn w) n (kn++mo) (nI WD) (B+1+201*(R.length-t)) vB w6 lo2 Lf/\
    cQ (kn++mo) WD (R.take t++cr::dn)/\t<=R.length/\(uK (R.take t).reverse cr).reverse++dn=rD R p/\m=t/\ie H H2 (a::A.all) (a::A2.all)/\A2.li=A.li,
   ⟨R.length,A1,WB,WC,sh,lo,ke,ls++[i1],R.length,p,[],none,rfl,by rw[sub_self];exact c2,by rw[take_length];exact hR1,Nat.le_refl _,by rw[take_length,append_nil];rfl,rfl,CA,Ul⟩,?_⟩
  rintro m σ H3 ⟨A3,mo,nu3,sh3,XM,ke3,xA,t,cr,dn,pr,rfl,c3,hL,htR,hT,rfl,sH,Ws⟩
  have hli:H3 A.li=some (.lst ((nI xA).map V.int)):=by rw[<-Ws];exact c3.hli
  refine⟨_,rfl,_,_,rfl,rfl,_,rfl,?_⟩
  cases m with
  |zero=>
   rw[decide_eq_false (by omega)]
   refine sN ?_
   have Pr:cQ (kn++mo) xA (rD R p):=by
    rw[<-hT]
    exact hL
   obtain⟨m1,r1,hm1,hm2,Um⟩:=Pr.last (by rw[vo];omega)
   refine⟨_,rfl,_,rfl,A.li,_,-1,_,rfl,rfl,cX.of hli,vN (vp hm1),_,rfl,a,C,A3.dx,_,_,rfl,c3.ob,T.cl,T.no,O3,rfl,_,rfl,?_⟩
   have hz2:(kn++mo)[zn]?=some (upTo n,upTo n):=bW hzn
   by_cases hq:r1=(upTo n,upTo n)
   ·rw[decide_eq_true (show V.int (m1:Int)=V.int (zn:Int)from congrArg V.int ((c3.inj Um hz2).mpr hq))]
    refine uD ?_
    refine⟨_,rfl,.inl ⟨rfl,_,cX.of hli⟩,A.li,_,_,rfl,rfl,hli,DX (vp hm1),?_⟩
    rw[DY,<-Ws]
    have hdr:cQ (kn++mo) xA.dropLast (eO n R p):=by
     unfold eO
     rw[if_pos (by rw[hm2,hq])]
     exact Pr.drop
    exact k _ A3 mo xA.dropLast _ _ _ _ ((c3.AU hdr.li).more (by omega)) hdr (sH.trans (ie.upd (mem_cons_of_mem _ (mem_append_left _ (by simp[Ad.hd]))) _))
   ·rw[decide_eq_false (show¬V.int (m1:Int)=V.int (zn:Int)from fun e=>hq ((c3.inj Um hz2).mp (by injection e)))]
    refine sN ?_
    have hdr:cQ (kn++mo) xA (eO n R p):=by
     unfold eO
     rw[if_neg (by rw[hm2];exact fun e=>hq (Option.some.inj e))]
     exact Pr
    exact k _ A3 mo xA _ _ _ _ (c3.more (by omega)) hdr sH
  |succ t=>
   rw[decide_eq_true (by omega)]
   refine uD ?_
   have hrt:R[t]?=some (R[t]'(by omega)):=getElem?_eq_getElem (by omega)
   generalize R[t]'(by omega)=r at hrt
   have etk:R.take (t+1)=R.take t++[r]:=by rw[take_succ,hrt];rfl
   have ltk:(R.take t).length=t:=by rw[length_take];omega
   have g1:(R.take (t+1)++cr::dn)[t]?=some r:=by
    rw[etk,List.append_assoc,getElem?_append_right (by omega),ltk,sub_self]
    rfl
   have g2:(R.take (t+1)++cr::dn)[t+1]?=some cr:=by
    rw[getElem?_append_right (by rw[length_take];omega),show t+1-(R.take (t+1)).length=0 by rw[length_take];omega]
    rfl
   obtain⟨ma,la,ka⟩:=hL.at g1
   obtain⟨mb,lb,kb⟩:=hL.at g2
   refine⟨fun σ' H'=>∃m'<t+1,∃(A2:Ad)(mo:List RP)(vB w6 lo2 Lf:List (List Key×V))(WD:List Nat)(t:Nat)(cr:RP)(dn:List RP)(pr:Option V),σ'=[some (.ref a),some v,some (.ref A.li),some (.int t),pr]/\hU C H' a A2 (uv zn w) n (kn++mo) (nI WD) (B+1+201*(R.length-t)) vB w6 lo2 Lf/\
    cQ (kn++mo) WD (R.take t++cr::dn)/\t<=R.length/\(uK (R.take t).reverse cr).reverse++dn=rD R p/\m'=t/\ie H H' (a::A.all) (a::A2.all)/\A2.li=A.li,fun σ' H' h=>h,?_⟩
   have XR:((t+1:Nat):Int)-1=(t:Nat):=by omega
   refine⟨_,rfl,a,A3.dx,_,rfl,c3.ob,rfl,_,rfl,_,rfl,_,_,rfl,rfl,A.li,_,((t+1:Nat):Int)-1,.int ma,rfl,rfl,cX.of hli,by rw[XR];exact iO (tK la),_,rfl,_,rfl,A.li,_,((t+1:Nat):Int),.int mb,rfl,rfl,cX.of hli,iO (tK lb),
    a,A3,zn,w,n,kn++mo,nI xA,_,nu3,sh3,XM,ke3,r,cr,ma,mb,rfl,c3,hn,by omega,ka,kb,fun tt i4 j4 H4 A4 Ec Wt Wu lo4 ke4 c4 S6 Wv XS S5 el4=>?_⟩
   have A0:=el4.trans Ws
   have MQ:H4 A.li=some (.lst ((nI xA).map V.int)):=by rw[<-A0];exact c4.hli
   refine⟨_,rfl,tt,_,0,_,rfl,rfl,z0.of XS,rfl,_,rfl,_,rfl,_,_,rfl,rfl,A.li,_,((t+1:Nat):Int)-1,.int ma,rfl,rfl,cX.of MQ,by rw[XR];exact iO (tK la),rfl,_,rfl,?_⟩
   have kaX:(kn++mo++Ec)[ma]?=some r:=bW ka
   have hsl:=Ju (c:=cr) hrt
   by_cases XT:(cJ 50 r cr).1=r
   ·rw[decide_eq_true (show V.int (i4:Int)=V.int (ma:Int)from congrArg V.int ((c4.inj S6 kaX).mpr XT))]
    refine uD ?_
    have Pr:cQ (kn++mo++Ec) xA (rD R p):=by
     rw[<-hT,hsl,if_pos XT,reverse_cons,reverse_reverse,show R.take (t+1)++[cr]++dn=R.take (t+1)++cr::dn by rw[List.append_assoc];rfl]
     exact hL.pre
    have hli:=MQ
    obtain⟨m1,r1,hm1,hm2,Um⟩:=Pr.last (by rw[vo];omega)
    rw[List.append_assoc]at c4 Um Pr
    refine⟨_,rfl,_,rfl,A.li,_,-1,_,rfl,rfl,cX.of hli,vN (vp hm1),_,rfl,a,C,A4.dx,_,_,rfl,c4.ob,T.cl,T.no,O3,rfl,_,rfl,?_⟩
    have hz2:(kn++(mo++Ec))[zn]?=some (upTo n,upTo n):=bW hzn
    by_cases hq:r1=(upTo n,upTo n)
    ·rw[decide_eq_true (show V.int (m1:Int)=V.int (zn:Int)from congrArg V.int ((c4.inj Um hz2).mpr hq))]
     refine uD ?_
     refine⟨_,rfl,.inl ⟨rfl,_,cX.of hli⟩,A.li,_,_,rfl,rfl,hli,DX (vp hm1),?_⟩
     rw[DY,<-A0]
     have hdr:cQ (kn++(mo++Ec)) xA.dropLast (eO n R p):=by
      unfold eO
      rw[if_pos (by rw[hm2,hq])]
      exact Pr.drop
     exact k _ A4 (mo++Ec) xA.dropLast _ _ _ _ ((c4.AU hdr.li).more (by omega)) hdr ((sH.trans S5).trans (ie.upd (mem_cons_of_mem _ (mem_append_left _ (by simp[Ad.hd]))) _))
    ·rw[decide_eq_false (show¬V.int (m1:Int)=V.int (zn:Int)from fun e=>hq ((c4.inj Um hz2).mp (by injection e)))]
     refine sN ?_
     have hdr:cQ (kn++(mo++Ec)) xA (eO n R p):=by
      unfold eO
      rw[if_neg (by rw[hm2];exact fun e=>hq (Option.some.inj e))]
      exact Pr
     exact k _ A4 (mo++Ec) xA _ _ _ _ (c4.more (by omega)) hdr (sH.trans S5)
   ·rw[decide_eq_false (show¬V.int (i4:Int)=V.int (ma:Int)from fun e=>XT ((c4.inj S6 kaX).mp (by injection e)))]
    refine sN ?_
    have lt1:t+1<xA.length:=(List.getElem?_eq_some_iff.mp lb).1
    have ixa:qH ((nI xA).map V.int).length (((t+1:Nat):Int)-1)=some t:=by
     unfold L2.qH
     rw[XR,if_pos (by omega),if_pos (by rw[length_map,ly];omega),toNat_natCast]
    refine⟨_,rfl,tt,_,0,_,rfl,rfl,z0.of XS,rfl,_,rfl,_,rfl,_,_,rfl,rfl,A.li,_,_,t,rfl,rfl,MQ,ixa,?_⟩
    have hLa:cQ (kn++mo++Ec) (xA.set t i4) ((R.take (t+1)++cr::dn).set t (cJ 50 r cr).1):=hL.pre.set t S6
    have c5:=c4.AU hLa.li
    rw[A0,<-Jt]at c5
    have K2:ie H (upd H4 A.li (.lst (((nI xA).map V.int).set t (.int i4)))) (a::A.all) (a::A4.all):=(sH.trans S5).trans (ie.upd (by rw[<-A0];exact mem_cons_of_mem _ (mem_append_left _ (by simp[Ad.hd]))) _)
    have Xu:(upd H4 A.li (.lst (((nI xA).map V.int).set t (.int i4)))) tt=some (.tup [.int i4,.int j4]):=by rw[ai (bM XS MQ (by intro zz;cases zz))];exact XS
    generalize upd H4 A.li (.lst (((nI xA).map V.int).set t (.int i4)))=H5 at c5 K2 Xu
    have aay:H5 A.li=some (.lst ((nI (xA.set t i4)).map V.int)):=by rw[<-A0];exact c5.hli
    have ixb:qH ((nI (xA.set t i4)).map V.int).length ((t+1:Nat):Int)=some (t+1):=by
     unfold L2.qH
     rw[if_pos (by omega),if_pos (by rw[length_map,ly,length_set];omega),toNat_natCast]
    refine⟨_,rfl,tt,_,1,_,rfl,rfl,z0.of Xu,rfl,_,rfl,_,rfl,A.li,_,_,t+1,rfl,rfl,aay,ixb,?_⟩
    have XU:=hLa.set (t+1) Wv
    have c6:=c5.AU XU.li
    rw[A0,<-Jt]at c6
    have XG:ie H (upd H5 A.li (.lst (((nI (xA.set t i4)).map V.int).set (t+1) (.int j4)))) (a::A.all) (a::A4.all):=K2.trans (ie.upd (by rw[<-A0];exact mem_cons_of_mem _ (mem_append_left _ (by simp[Ad.hd]))) _)
    refine⟨_,rfl,_,_,rfl,rfl,?_⟩
    have aaz:((R.take (t+1)++cr::dn).set t (cJ 50 r cr).1).set (t+1) (cJ 50 r cr).2=R.take t++(cJ 50 r cr).1::(cJ 50 r cr).2::dn:=by
     rw[etk,List.append_assoc,List.set_append_right _ _ (by omega),List.set_append_right _ _ (by omega),ltk,sub_self,show t+1-t=1 by omega]
     rfl
    rw[aaz]at XU
    rw[List.append_assoc]at c6 XU
    dsimp only
    rw[XR]
    refine⟨t,by omega,A4,mo++Ec,Wt,Wu,lo4,ke4,_,t,(cJ 50 r cr).1,(cJ 50 r cr).2::dn,_,rfl,c6.more (by omega),XU,by omega,?_,rfl,XG,A0⟩
    rw[<-hT,hsl,if_neg XT,reverse_cons,List.append_assoc]
    rfl
end
end DL.oH
namespace DL.oH
open PySem PySem.Spec PyProof.Rows L2 DL
abbrev Ed:Stmt:=inClass (top 20) 7
def aaA(K:PySem.W.Frag):TE:=Yz (fun xs H Q=>∃p ys,xs=[V.ref p]/\(cX K H p ys\/z0 K H p ys)/\∀l,H l=none->Q (.ref l) (upd H l (.lst ys))) (NS (UM (Qy K) (UU K (Lo 1) "known") (Lo 0)) Qw)
def Pu(K:PySem.W.Frag)(C:Addr):Sp:=fun vs H Q _=>∃(a:Addr)(A:Ad)(z:Int)(wn n:Nat)(kn:List RP)(ls:List Nat)(R:List RP)(B:Nat)(nu sh lo ke:List (List Key×V)),
 vs=[.ref a]/\hU C H a A (uv z wn) n kn (nI ls) B nu sh lo ke/\cQ kn ls R/\kn[wn]?=some (eJ n)/\R.length<=1000/\∀(v:V)(H':Hp),aM H H'->Is K (fun x=>H x=none) H' (uw n R) v->Q v H'
section
variable{P:Program}{w:World}{K:PySem.W.Frag}{mg:Str->Option Value}{base:Heap}
theorem sc7:aD ["self","many"] ["self"] (ae Ed):=⟨rfl,rfl,rfl,by decide +kernel,rfl,by decide +kernel,by decide +kernel⟩
theorem WE{f C:Addr}{fd:FuncData}(F:z8 K "form_told" "Comb.form_told" Ed f fd)(T:Lc K mg C):cu P w K mg base kC 1 f fd ["self"] (Pu K C):=by
 refine F.ok sc7 (fun vs H Q E h=>?_) (fun cdv A outer s H vs Q E hr h=>?_)
 ·obtain⟨a,A,z,wn,n,kn,ls,R,B,nu,sh,lo,ke,rfl,_⟩:=h
  rfl
 ·obtain⟨a,A,z,wn,n,kn,ls,R,B,nu,sh,lo,ke,rfl,c,hR,hwn,hRl,k⟩:=h
  have hu:=qM hr
  refine⟨_,aF (dq (i:=1) sc7.nd rfl (Or.inl rfl) gA)
   (aF (vK PassesOwn.never (pw_and (jB qL (pv 1) (i7 mm (by rfl) T.XF dJ (aB (bD (pv 0) rfl) aN)) (aE _)) (pw_and1 (jB Hc (ik dG (bD (pv 0) rfl) (pv 1) (fun _ _=>rfl)) (bD (pv 0) rfl) (aE _)))).pt
    (bU (BE (i:=1) sc7.nd rfl (Or.inl rfl) gA G4)))
   (bU (lg (sJ (aB (pv 1) (aB (JD (te:=aaA K) (Me (N:=["number","self"]) (nt:=1) (caps:=[0]) (ae Ed) ["self","many"] (by decide +kernel)) rfl (uU (z5 C5 (bD (pv 0) rfl) (C3 (pv 1)) C2)) (fun _ _ _ _ _=>yQ (i:=0) (by show Nodup (["number","self"]:List Str);decide +kernel) rfl (Or.inl rfl)) (fun _ _ _ _ _=>by exact o7 mw (by rfl) T.mli mz (aB (ik dG (bD (pv 1) rfl) (pv 0) (fun _ _=>rfl)) aN))) aN)))))),?_⟩
  refine⟨fun m σ H2=>∃i:Nat,σ=[some (.ref a),some (.int i)]/\H2=H/\i<=R.length/\(∀j<i,R[j]?=some (eJ n))/\m=R.length-i,⟨R.length,0,rfl,rfl,zero_le _,fun j hj=>absurd hj (Nat.not_lt_zero _),rfl⟩,?_⟩
  rintro m σ H2 ⟨i,rfl,rfl,hiR,hal,hm⟩
  refine⟨_,rfl,_,rfl,a,C,A.dx,_,_,rfl,c.ob,T.cl,T.li,AR,A.li,_,rfl,.inl (cX.of c.hli),_,_,rfl,rfl,_,rfl,?_⟩
  by_cases hlt:i<R.length
  ·rw[decide_eq_true (show(i:Int)<(((nI ls).map V.int).length:Nat)by rw[length_map,ly,hR.len];omega)]
   refine uD ?_
   obtain⟨mi,hm1,hm2⟩:=hR.at (getElem?_eq_getElem hlt)
   refine⟨_,rfl,a,C,A.dx,_,_,rfl,c.ob,T.cl,T.li,AR,_,rfl,A.li,_,i,.int mi,rfl,rfl,cX.of c.hli,iO (tK hm1),_,rfl,a,C,A.dx,_,_,rfl,c.ob,T.cl,T.wh,Wd,rfl,_,rfl,?_⟩
   by_cases he:R[i]=eJ n
   ·rw[decide_eq_true (show V.int (mi:Int)=V.int (wn:Int)from congrArg V.int ((c.inj hm2 hwn).mpr he))]
    refine uD ?_
    refine⟨fun σ' H'=>∃m'<m,∃i:Nat,σ'=[some (.ref a),some (.int i)]/\H'=H2/\i<=R.length/\(∀j<i,R[j]?=some (eJ n))/\m'=R.length-i,fun _ _ h=>h,_,rfl,_,_,rfl,rfl,R.length-(i+1),by omega,i+1,rfl,rfl,hlt,fun j hj=>?_,rfl⟩
    by_cases hji:j<i
    ·exact hal j hji
    ·have:j=i:=by omega
     subst this
     rw[getElem?_eq_getElem hlt,he]
   ·rw[decide_eq_false (show¬V.int (mi:Int)=V.int (wn:Int)from fun e=>he ((c.inj hm2 hwn).mp (by injection e)))]
    refine sN ?_
    have hcn:dM n R=i:=AV hal (by rw[getElem?_eq_getElem hlt];exact fun e=>he (Option.some.inj e))
    have S7:xF ((nI ls).map V.int) (some (i:Int)) none=(nI (ls.drop i)).map V.int:=by
     unfold xF nI
     rw[jC _ _ _ (by omega),nS,toNat_natCast,length_map,length_map,hR.len,min_eq_left hiR,map_drop,map_drop]
     refine take_of_length_le ?_
     rw[length_drop,length_map,length_map,hR.len]
     exact Nat.le_refl _
    refine⟨_,rfl,_,rfl,a,C,A.dx,_,_,rfl,c.ob,T.cl,T.li,AR,_,rfl,_,rfl,A.li,_,rfl,cX.of c.hli,fun q hq=>?_⟩
    rw[S7]
    have s1:=aO hq (.lst ((nI (ls.drop i)).map V.int))
    have hq1:(upd H2 q (.lst ((nI (ls.drop i)).map V.int))) q=some (.lst ((nI (ls.drop i)).map V.int)):=ar
    generalize upd H2 q (.lst ((nI (ls.drop i)).map V.int))=H1 at s1 hq1
    have S8:cQ kn (ls.drop i) (R.drop i):=by
     unfold cQ
     rw[map_drop,map_drop,show ls.map (fun m=>kn[m]?)=R.map some from hR]
    refine⟨q,rfl,⟨_,cX.of hq1⟩,q,_,[.ref a],rfl,cX.of hq1,rfl,fun j i' v e1 e2=>?_,fun Dd hD=>?_⟩
    ·match j with
     |0=>
      have z1:0=i':=by simpa using e1
      have z2:V.ref a=v:=by simpa using e2
      subst z1 z2
      rfl
     |j+1=>simp at e1
    ·refine⟨fun j acc Hx=>∃as:List Addr,acc=as.map V.ref/\as.length=j/\j<=(R.drop i).length/\aM H1 Hx/\Hx Dd=some (.lst acc)/\(∀b∈as,H1 b=none/\b≠Dd)/\∀(k:Nat)(b:Addr)(r:RP),as[k]?=some b->(R.drop i)[k]?=some r->Hx b=some (.lst (r.1.map V.int)),⟨[],rfl,rfl,zero_le _,aO hD _,ar,(fun b hb=>nomatch hb),fun k b r e=>by simp at e⟩,?_,?_,?_⟩
     ·rintro j acc Hx ⟨as,rfl,_,_,sx,Ge,_⟩
      exact⟨cX.of (sx _ _ hq1),Ge⟩
     ·rintro j acc Hx x ⟨as,rfl,hj,S9,sx,Ge,hnew,hat⟩ hx
      have hjr:j<(ls.drop i).length:=by
       have:=(List.getElem?_eq_some_iff.mp hx).1
       rwa [length_map,ly]at this
      have MR:j<(R.drop i).length:=by rw[<-S8.len];exact hjr
      obtain⟨m,hm1,hm2⟩:=S8.at (getElem?_eq_getElem MR)
      rw[tK hm1]at hx
      cases hx
      have cx:=c.same (s1.trans sx)
      have HN:m<A.ks.length:=by rw[c.AQ];exact(List.getElem?_eq_some_iff.mp hm2).1
      have hb:=cx.hks m A.ks[m] _ (getElem?_eq_getElem HN) hm2
      refine⟨_,rfl,a,C,A.dx,_,_,rfl,cx.ob,T.cl,T.kn,yv,_,rfl,A.kn,A.ks.map V.ref,m,.ref A.ks[m],rfl,rfl,cX.of cx.hkn,iO (by rw[getElem?_map,getElem?_eq_getElem HN];rfl),A.ks[m],_,rfl,.inl (cX.of hb),fun l2 hl2=>?_⟩
      have Tc:Dd≠l2:=fun zz=>by rw[<-zz,Ge]at hl2;cases hl2
      have hl1:H1 l2=none:=sx.free hl2
      refine⟨by rw[ai Tc];exact Ge,by rw[length_map,hj];exact lt_of_lt_of_le (show j<1000001 by rw[length_drop]at MR;omega) (by decide),as++[l2],by rw[map_append];rfl,by rw[length_append,hj];rfl,MR,?_,ar,fun b K7=>?_,fun k' b r e1 e2=>?_⟩
      ·intro y o hy
       have hyD:y≠Dd:=fun zz=>by rw[zz,hD]at hy;cases hy
       rw[ai hyD]
       exact aO hl2 _ _ _ (sx _ _ hy)
      ·rcases mem_append.mp K7 with h|h
       ·exact hnew b h
       ·have:b=l2:=by simpa using h
        rw[this];exact⟨hl1,Ne.symm Tc⟩
      ·by_cases hk:k'<as.length
       ·rw[getElem?_append_left hk]at e1
        have U9:=hat k' b r e1 e2
        rw[ai (hnew b (mem_of_getElem? e1)).2]
        exact aO hl2 _ _ _ U9
       ·obtain⟨z1,z2⟩:=oE e1 hk
        rw[hj]at z1
        rw[z1,getElem?_eq_getElem MR]at e2
        cases e2
        rw[<-z2,ai (Ne.symm Tc)]
        exact ar
     ·rintro acc Hx ⟨as,rfl,hj,S9,sx,Ge,hnew,hat⟩
      refine⟨(by show 2<=sizeLine;decide),fun pt WG=>?_⟩
      have st:=aO WG (.tup [V.int i,V.ref Dd])
      have hlen:as.length=((R.drop i).map (·.1)).length:=by
       rw[hj,length_map,ly,length_map]
       exact S8.len
      have hD0:H2 Dd=none:=s1.free hD
      refine k _ _ ((s1.trans sx).trans st) ?_
      unfold uw
      rw[hcn]
      refine⟨pt,_,rfl,.inl ⟨(s1.trans sx).free WG,.inl ar⟩,_,_,rfl,rfl,_,_,rfl,⟨Dd,_,rfl,.inl ⟨hD0,.inl (st _ _ Ge)⟩,?_⟩,rfl⟩
      have:=qZ (K:=K) (P:=fun x=>H2 x=none) (H:=upd Hx pt (.tup [V.int i,V.ref Dd])) hlen (fun b hb=>s1.free (hnew b hb).1) fun k' b ns e1 e2=>by
       rw[getElem?_map]at e2
       cases hr:(R.drop i)[k']? with
       |none=>rw[hr]at e2;cases e2
       |some r=>
        rw[hr]at e2
        cases e2
        exact st _ _ (hat k' b r e1 hr)
      rw[map_map]at this
      exact this
  ·rw[decide_eq_false (show¬(i:Int)<(((nI ls).map V.int).length:Nat)by rw[length_map,ly,hR.len];omega)]
   refine sN ?_
   refine sN ?_
   have hcn:dM n R=i:=AV hal (by rw[getElem?_eq_none (by omega)];exact fun e=>nomatch e)
   have S7:xF ((nI ls).map V.int) (some (i:Int)) none=(nI (ls.drop i)).map V.int:=by
    unfold xF nI
    rw[jC _ _ _ (by omega),nS,toNat_natCast,length_map,length_map,hR.len,min_eq_left hiR,map_drop,map_drop]
    refine take_of_length_le ?_
    rw[length_drop,length_map,length_map,hR.len]
    exact Nat.le_refl _
   refine⟨_,rfl,_,rfl,a,C,A.dx,_,_,rfl,c.ob,T.cl,T.li,AR,_,rfl,_,rfl,A.li,_,rfl,cX.of c.hli,fun q hq=>?_⟩
   rw[S7]
   have s1:=aO hq (.lst ((nI (ls.drop i)).map V.int))
   have hq1:(upd H2 q (.lst ((nI (ls.drop i)).map V.int))) q=some (.lst ((nI (ls.drop i)).map V.int)):=ar
   generalize upd H2 q (.lst ((nI (ls.drop i)).map V.int))=H1 at s1 hq1
   have S8:cQ kn (ls.drop i) (R.drop i):=by
    unfold cQ
    rw[map_drop,map_drop,show ls.map (fun m=>kn[m]?)=R.map some from hR]
   refine⟨q,rfl,⟨_,cX.of hq1⟩,q,_,[.ref a],rfl,cX.of hq1,rfl,fun j i' v e1 e2=>?_,fun Dd hD=>?_⟩
   ·match j with
    |0=>
     have z1:0=i':=by simpa using e1
     have z2:V.ref a=v:=by simpa using e2
     subst z1 z2
     rfl
    |j+1=>simp at e1
   ·refine⟨fun j acc Hx=>∃as:List Addr,acc=as.map V.ref/\as.length=j/\j<=(R.drop i).length/\aM H1 Hx/\Hx Dd=some (.lst acc)/\(∀b∈as,H1 b=none/\b≠Dd)/\∀(k:Nat)(b:Addr)(r:RP),as[k]?=some b->(R.drop i)[k]?=some r->Hx b=some (.lst (r.1.map V.int)),⟨[],rfl,rfl,zero_le _,aO hD _,ar,(fun b hb=>nomatch hb),fun k b r e=>by simp at e⟩,?_,?_,?_⟩
    ·rintro j acc Hx ⟨as,rfl,_,_,sx,Ge,_⟩
     exact⟨cX.of (sx _ _ hq1),Ge⟩
    ·rintro j acc Hx x ⟨as,rfl,hj,S9,sx,Ge,hnew,hat⟩ hx
     have hjr:j<(ls.drop i).length:=by
      have:=(List.getElem?_eq_some_iff.mp hx).1
      rwa [length_map,ly]at this
     have MR:j<(R.drop i).length:=by rw[<-S8.len];exact hjr
     obtain⟨m,hm1,hm2⟩:=S8.at (getElem?_eq_getElem MR)
     rw[tK hm1]at hx
     cases hx
     have cx:=c.same (s1.trans sx)
     have HN:m<A.ks.length:=by rw[c.AQ];exact(List.getElem?_eq_some_iff.mp hm2).1
     have hb:=cx.hks m A.ks[m] _ (getElem?_eq_getElem HN) hm2
     refine⟨_,rfl,a,C,A.dx,_,_,rfl,cx.ob,T.cl,T.kn,yv,_,rfl,A.kn,A.ks.map V.ref,m,.ref A.ks[m],rfl,rfl,cX.of cx.hkn,iO (by rw[getElem?_map,getElem?_eq_getElem HN];rfl),A.ks[m],_,rfl,.inl (cX.of hb),fun l2 hl2=>?_⟩
     have Tc:Dd≠l2:=fun zz=>by rw[<-zz,Ge]at hl2;cases hl2
     have hl1:H1 l2=none:=sx.free hl2
     refine⟨by rw[ai Tc];exact Ge,by rw[length_map,hj];exact lt_of_lt_of_le (show j<1000001 by rw[length_drop]at MR;omega) (by decide),as++[l2],by rw[map_append];rfl,by rw[length_append,hj];rfl,MR,?_,ar,fun b K7=>?_,fun k' b r e1 e2=>?_⟩
     ·intro y o hy
      have hyD:y≠Dd:=fun zz=>by rw[zz,hD]at hy;cases hy
      rw[ai hyD]
      exact aO hl2 _ _ _ (sx _ _ hy)
     ·rcases mem_append.mp K7 with h|h
      ·exact hnew b h
      ·have:b=l2:=by simpa using h
       rw[this];exact⟨hl1,Ne.symm Tc⟩
     ·by_cases hk:k'<as.length
      ·rw[getElem?_append_left hk]at e1
       have U9:=hat k' b r e1 e2
       rw[ai (hnew b (mem_of_getElem? e1)).2]
       exact aO hl2 _ _ _ U9
      ·obtain⟨z1,z2⟩:=oE e1 hk
       rw[hj]at z1
       rw[z1,getElem?_eq_getElem MR]at e2
       cases e2
       rw[<-z2,ai (Ne.symm Tc)]
       exact ar
    ·rintro acc Hx ⟨as,rfl,hj,S9,sx,Ge,hnew,hat⟩
     refine⟨(by show 2<=sizeLine;decide),fun pt WG=>?_⟩
     have st:=aO WG (.tup [V.int i,V.ref Dd])
     have hlen:as.length=((R.drop i).map (·.1)).length:=by
      rw[hj,length_map,ly,length_map]
      exact S8.len
     have hD0:H2 Dd=none:=s1.free hD
     refine k _ _ ((s1.trans sx).trans st) ?_
     unfold uw
     rw[hcn]
     refine⟨pt,_,rfl,.inl ⟨(s1.trans sx).free WG,.inl ar⟩,_,_,rfl,rfl,_,_,rfl,⟨Dd,_,rfl,.inl ⟨hD0,.inl (st _ _ Ge)⟩,?_⟩,rfl⟩
     have:=qZ (K:=K) (P:=fun x=>H2 x=none) (H:=upd Hx pt (.tup [V.int i,V.ref Dd])) hlen (fun b hb=>s1.free (hnew b hb).1) fun k' b ns e1 e2=>by
      rw[getElem?_map]at e2
      cases hr:(R.drop i)[k']? with
      |none=>rw[hr]at e2;cases e2
      |some r=>
       rw[hr]at e2
       cases e2
       exact st _ _ (hat k' b r e1 hr)
     rw[map_map]at this
     exact this
end
end DL.oH
namespace DL.oH
open PySem PySem.Spec PyProof.Rows L2 DL
abbrev CB:Stmt:=inClass (top 20) 0
def Uo(i:Int):List (Str×V):=[("none",.int i)]
def Pw(K:PySem.W.Frag)(C:Addr):Sp:=fun vs H Q _=>∃(a dx:Addr)(n:Nat),vs=[.ref a,.int n]/\(1<=n/\n<=7)/\H a=some (.ins C dx [])/\(∃o,H dx=some o)/\a≠dx/\
 ∀(H':Hp)(A':Ad)(kn:List RP)(zn wn:Nat)(nu:List (List Key×V)),hU C H' a A' (uv zn wn) n kn (nI []) 2 nu [] [] []->kn[zn]?=some (upTo n,upTo n)->kn[wn]?=some (eJ n)->(∀x u,x≠a->H x=some u->x≠dx->H' x=some u)->(∀x∈A'.all,x=dx\/H x=none)->(∀x,H' x=none->H x=none)->Q .non H'
section
variable{P:Program}{w:World}{K:PySem.W.Frag}{mg:Str->Option Value}{base:Heap}
theorem sc0:aD ["self","n"] ["self","n"] (ae CB):=⟨rfl,rfl,rfl,by decide +kernel,rfl,by decide +kernel,by decide +kernel⟩
theorem WH{f C fN:Addr}{fd JS:FuncData}(F:z8 K "__init__" "Comb.__init__" CB f fd)(T:Lc K mg C)(t:Tb K mg)
  (mN:Meth K C "number_of" fN)(bN:Binds K JS ["self","row"] [])(GN:cu P w K mg base kC 3 fN JS ["self","row"] (AZ K C))
  (G_s:mB P w K mg base 1 t.iJ t.iK ["n"] cZ)(G_h:mB P w K mg base 1 t.zt t.zu ["n"] wy)
  (es:∀n:Nat,n<=7->cZ [.int n]=.ok (aK (upTo n)))(eh:∀n:Nat,1<=n/\n<=7->wy [.int n]=.ok (aK (upTo n).reverse))(ivh:∀n:Nat,Iv n (upTo n).reverse (upTo n).reverse)(ivs:∀n:Nat,Iv n (upTo n) (upTo n)):cu P w K mg base kC 4 f fd ["self","n"] (Pw K C):=by
 refine F.ok sc0 (fun vs H Q E h=>?_) (fun cdv A outer s H vs Q E hr h=>?_)
 ·obtain⟨a,dx,n,rfl,_⟩:=h
  rfl
 ·obtain⟨a,dx,n,rfl,hn,hob,hdx,hne,k⟩:=h
  have hu:=qM hr
  refine⟨_,(aF (lh (pv 0) (sL aN) rfl) (aF (lh (pv 0) qO rfl) (aF (lh (pv 0) (sL aN) rfl) (aF (lh (pv 0) (sL aN) rfl) (aF (lh (pv 0) qO rfl) (aF (lh (pv 0) qO rfl) (aF (lh (pv 0) qO rfl) (aF (lh (pv 0) (sL aN) rfl) (aF (lh (pv 0) (iN (pv 0) T.cl mN GN (hr.mono (by decide)) bN .nil nj (aB (dZ (E:=fun _ _ _=>False) G_s (hr.mono (by decide)) (by rfl) t.fq.m t.fq.F.kp t.fq.b .nil kG (aB (pv 1) aN)) aN)) rfl) (bU (lh (pv 0) (iN (pv 0) T.cl mN GN (hr.mono (by decide)) bN .nil nj (aB (dZ (E:=fun _ _ _=>False) G_h (hr.mono (by decide)) (by rfl) t.wU.m t.wU.F.kp t.wU.b .nil kG (aB (pv 1) aN)) aN)) rfl))))))))))),?_⟩
  refine⟨(by show 0<=sizeLine;decide),fun l1 h1=>?_⟩
  obtain⟨ne1,WI,ob1,at1,XW,Lg⟩:=jd hob h1 (.lst []) "known"
  refine⟨_,rfl,a,C,dx,_,rfl,WI,T.cl,T.kn,(by show 0<1000;decide),?_⟩
  generalize hH1:upd (upd H l1 (.lst [])) a _=H1 at ob1 at1 XW Lg
  intro l2 h2
  obtain⟨ne2,WK,Wk,at2,MS,Px⟩:=jd ob1 h2 (.dT []) "numbers"
  refine⟨_,rfl,a,C,dx,_,rfl,WK,T.cl,T.nu,(by show 1<1000;decide),?_⟩
  generalize hH2:upd (upd H1 l2 (.dT [])) a _=H2 at Wk at2 MS Px
  refine⟨(by show 0<=sizeLine;decide),fun l3 h3=>?_⟩
  obtain⟨ne3,WL,Wl,Td,Ef,Te⟩:=jd Wk h3 (.lst []) "firsts"
  refine⟨_,rfl,a,C,dx,_,rfl,WL,T.cl,T.fi,(by show 2<1000;decide),?_⟩
  generalize Ld:upd (upd H2 l3 (.lst [])) a _=H3 at Wl Td Ef Te
  refine⟨(by show 0<=sizeLine;decide),fun l4 h4=>?_⟩
  obtain⟨ne4,WM,ob4,Up,A5,Uq⟩:=jd Wl h4 (.lst []) "lasts"
  refine⟨_,rfl,a,C,dx,_,rfl,WM,T.cl,T.la,(by show 3<1000;decide),?_⟩
  generalize hH4:upd (upd H3 l4 (.lst [])) a _=H4 at ob4 Up A5 Uq
  intro l5 h5
  obtain⟨ne5,WN,ob5,WO,zV,WQ⟩:=jd ob4 h5 (.dT []) "shorter"
  refine⟨_,rfl,a,C,dx,_,rfl,WN,T.cl,T.sh,(by show 4<1000;decide),?_⟩
  generalize hH5:upd (upd H4 l5 (.dT [])) a _=H5 at ob5 WO zV WQ
  intro l6 h6
  obtain⟨XX,WR,XH,XY,A6,X0⟩:=jd ob5 h6 (.dT []) "longer"
  refine⟨_,rfl,a,C,dx,_,rfl,WR,T.cl,T.lo,(by show 5<1000;decide),?_⟩
  generalize Le:upd (upd H5 l6 (.dT [])) a _=H6 at XH XY A6 X0
  intro l7 h7
  obtain⟨ne7,WS,ob7,at7,Eg,gr7⟩:=jd XH h7 (.dT []) "kept"
  refine⟨_,rfl,a,C,dx,_,rfl,WS,T.cl,T.ke,(by show 6<1000;decide),?_⟩
  generalize hH7:upd (upd H6 l7 (.dT [])) a _=H7 at ob7 at7 Eg gr7
  refine⟨(by show 0<=sizeLine;decide),fun l8 h8=>?_⟩
  obtain⟨ne8,WT,X1,at8,MT,gr8⟩:=jd ob7 h8 (.lst []) "line"
  refine⟨_,rfl,a,C,dx,_,rfl,WT,T.cl,T.li,(by show 7<1000;decide),?_⟩
  generalize hH8:upd (upd H7 l8 (.lst [])) a _=H8 at X1 at8 MT gr8
  have v1:H8 l1=some (.lst []):=(MT _ _ ne1 (Eg _ _ ne1 (A6 _ _ ne1 (zV _ _ ne1 (A5 _ _ ne1 (Ef _ _ ne1 (MS _ _ ne1 at1)))))))
  have v2:H8 l2=some (.dT []):=(MT _ _ ne2 (Eg _ _ ne2 (A6 _ _ ne2 (zV _ _ ne2 (A5 _ _ ne2 (Ef _ _ ne2 at2))))))
  have v3:H8 l3=some (.lst []):=(MT _ _ ne3 (Eg _ _ ne3 (A6 _ _ ne3 (zV _ _ ne3 (A5 _ _ ne3 Td)))))
  have v4:H8 l4=some (.lst []):=(MT _ _ ne4 (Eg _ _ ne4 (A6 _ _ ne4 (zV _ _ ne4 Up))))
  have v5:H8 l5=some (.dT []):=(MT _ _ ne5 (Eg _ _ ne5 (A6 _ _ ne5 WO)))
  have v6:H8 l6=some (.dT []):=(MT _ _ XX (Eg _ _ XX XY))
  have v7:H8 l7=some (.dT []):=(MT _ _ ne7 at7)
  have v8:H8 l8=some (.lst []):=at8
  have kp:∀x u,x≠a->H x=some u->H8 x=some u:=fun x u hn hx=>(MT _ _ hn (Eg _ _ hn (A6 _ _ hn (zV _ _ hn (A5 _ _ hn (Ef _ _ hn (MS _ _ hn (XW _ _ hn hx))))))))
  have gr:∀x,H8 x=none->H x=none:=fun x hx=>(Lg _ (Px _ (Te _ (Uq _ (WQ _ (X0 _ (gr7 _ (gr8 _ hx))))))))
  have f1:H l1=none:=h1
  have f2:H l2=none:=(Lg _ h2)
  have f3:H l3=none:=(Lg _ (Px _ h3))
  have f4:H l4=none:=(Lg _ (Px _ (Te _ h4)))
  have f5:H l5=none:=(Lg _ (Px _ (Te _ (Uq _ h5))))
  have f6:H l6=none:=(Lg _ (Px _ (Te _ (Uq _ (WQ _ h6)))))
  have f7:H l7=none:=(Lg _ (Px _ (Te _ (Uq _ (WQ _ (X0 _ h7))))))
  have f8:H l8=none:=(Lg _ (Px _ (Te _ (Uq _ (WQ _ (X0 _ (gr7 _ h8)))))))
  have aaH:l1≠l2:=au at1 h2
  have aaI:l1≠l3:=au (MS _ _ ne1 at1) h3
  have aaJ:l2≠l3:=au at2 h3
  have aaK:l1≠l4:=au (Ef _ _ ne1 (MS _ _ ne1 at1)) h4
  have aaL:l2≠l4:=au (Ef _ _ ne2 at2) h4
  have aaM:l3≠l4:=au Td h4
  have aaN:l1≠l5:=au (A5 _ _ ne1 (Ef _ _ ne1 (MS _ _ ne1 at1))) h5
  have aaO:l2≠l5:=au (A5 _ _ ne2 (Ef _ _ ne2 at2)) h5
  have aaP:l3≠l5:=au (A5 _ _ ne3 Td) h5
  have aaQ:l4≠l5:=au Up h5
  have aaR:l1≠l6:=au (zV _ _ ne1 (A5 _ _ ne1 (Ef _ _ ne1 (MS _ _ ne1 at1)))) h6
  have aaS:l2≠l6:=au (zV _ _ ne2 (A5 _ _ ne2 (Ef _ _ ne2 at2))) h6
  have aaT:l3≠l6:=au (zV _ _ ne3 (A5 _ _ ne3 Td)) h6
  have aaU:l4≠l6:=au (zV _ _ ne4 Up) h6
  have aaV:l5≠l6:=au WO h6
  have aaW:l1≠l7:=au (A6 _ _ ne1 (zV _ _ ne1 (A5 _ _ ne1 (Ef _ _ ne1 (MS _ _ ne1 at1))))) h7
  have aaX:l2≠l7:=au (A6 _ _ ne2 (zV _ _ ne2 (A5 _ _ ne2 (Ef _ _ ne2 at2)))) h7
  have aaY:l3≠l7:=au (A6 _ _ ne3 (zV _ _ ne3 (A5 _ _ ne3 Td))) h7
  have aaZ:l4≠l7:=au (A6 _ _ ne4 (zV _ _ ne4 Up)) h7
  have aa0:l5≠l7:=au (A6 _ _ ne5 WO) h7
  have aa1:l6≠l7:=au XY h7
  have aa2:l1≠l8:=au (Eg _ _ ne1 (A6 _ _ ne1 (zV _ _ ne1 (A5 _ _ ne1 (Ef _ _ ne1 (MS _ _ ne1 at1)))))) h8
  have aa3:l2≠l8:=au (Eg _ _ ne2 (A6 _ _ ne2 (zV _ _ ne2 (A5 _ _ ne2 (Ef _ _ ne2 at2))))) h8
  have aa4:l3≠l8:=au (Eg _ _ ne3 (A6 _ _ ne3 (zV _ _ ne3 (A5 _ _ ne3 Td)))) h8
  have aa5:l4≠l8:=au (Eg _ _ ne4 (A6 _ _ ne4 (zV _ _ ne4 Up))) h8
  have aa6:l5≠l8:=au (Eg _ _ ne5 (A6 _ _ ne5 WO)) h8
  have aa7:l6≠l8:=au (Eg _ _ XX XY) h8
  have aa8:l7≠l8:=au at7 h8
  have vd:∃o,H8 dx=some o:=by
   obtain⟨o,ho⟩:=hdx
   exact⟨o,kp _ _ (Ne.symm hne) ho⟩
  have Py:∀{l:Addr},H l=none->l≠dx:=fun hl z=>by
   obtain⟨o,ho⟩:=hdx
   rw[<-z,hl]at ho
   cases ho
  have c:hU C H8 a ⟨dx,l1,l2,l3,l4,l5,l6,l7,l8,[]⟩ [] n [] [] 0 [] [] [] []:=by
   refine⟨X1,vd,?_,v1,rfl,(fun i b p e=>by simp at e),v2,v3,v4,v5,v6,v7,v8,(fun p hp=>by simp at hp),(fun i p e=>by simp at e),(fun r _=>rfl),(fun i k v e=>by cases e),(fun i k v e=>by cases e),(fun i j v e=>by cases e),⟨Nat.le_refl _,Nat.le_refl _,Nat.le_refl _,Nat.le_refl _,Nat.le_refl _⟩,(fun m hm=>by simp at hm)⟩
   show(a::dx::l1::l2::l3::l4::l5::l6::l7::l8::[]).Nodup
   simp only [nodup_cons,mem_cons,not_mem_nil,or_false,not_or,not_false_eq_true,List.nodup_nil,and_true]
   exact⟨⟨hne,Ne.symm ne1,Ne.symm ne2,Ne.symm ne3,Ne.symm ne4,Ne.symm ne5,Ne.symm XX,Ne.symm ne7,Ne.symm ne8⟩,⟨Ne.symm (Py f1),Ne.symm (Py f2),Ne.symm (Py f3),Ne.symm (Py f4),Ne.symm (Py f5),Ne.symm (Py f6),Ne.symm (Py f7),Ne.symm (Py f8)⟩,⟨aaH,aaI,aaK,aaN,aaR,aaW,aa2⟩,⟨aaJ,aaL,aaO,aaS,aaX,aa3⟩,⟨aaM,aaP,aaT,aaY,aa4⟩,⟨aaQ,aaU,aaZ,aa5⟩,⟨aaV,aa0,aa6⟩,⟨aa1,aa7⟩,aa8⟩
  generalize X1=X1 at c
  clear WI WK WL WM WN WR WS WT
  have frF:∀x∈(⟨dx,l1,l2,l3,l4,l5,l6,l7,l8,[]⟩:Ad).all,x=dx\/H x=none:=fun x hx=>by
   unfold Ad.all Ad.hd at hx
   simp only [append_nil,mem_cons,not_mem_nil,or_false]at hx
   rcases hx with rfl|rfl|rfl|rfl|rfl|rfl|rfl|rfl|rfl
   ·exact .inl rfl
   ·exact .inr f1
   ·exact .inr f2
   ·exact .inr f3
   ·exact .inr f4
   ·exact .inr f5
   ·exact .inr f6
   ·exact .inr f7
   ·exact .inr f8
  generalize (⟨dx,l1,l2,l3,l4,l5,l6,l7,l8,[]⟩:Ad)=A at c frF
  refine⟨_,rfl,a,A.dx,_,rfl,c.ob,rfl,_,rfl,fun _=>True,[.int n],⟨_,_,rfl,rfl,rfl⟩,?_⟩
  rw[es n hn.2]
  intro q ws H9 s9 hq9 hw9 iw9
  have ew:=fQ iw9
  subst ew
  have c9:=c.same s9
  have nF:∀{Hx Hy:Hp}{Ax:Ad}{y:Addr}{exx:List (Str×V)}{knn:List RP}{lnn:List Int}{BB:Nat}{nn ss ll kk:List (List Key×V)},hU C Hx a Ax exx n knn lnn BB nn ss ll kk->Hx y=none->y∉a::Ax.all:=fun cx hy hx=>by
   obtain⟨o,ho⟩:=cx.there hx
   rw[hy]at ho
   cases ho
  refine⟨a,A,[],n,[],[],0,[],[],[],[],(upTo n,upTo n),.ref q,rfl,c9,hn.2,by decide,ivs n,⟨q,_,rfl,.inl ⟨nF (Hy:=H9) c hq9,.inl hw9⟩,bZ _⟩,fun i1 Aj A1 WB WC c10 hi1 zC Ul=>?_⟩
  refine⟨_,rfl,a,C,A1.dx,_,rfl,c10.ob,T.cl,T.no,(by show 8<1000;decide),?_⟩
  have X2:=c10.O4 (Uo i1)
  have WU:ie H8 (upd Aj a (.ins C A1.dx (uI A1++(Uo i1)))) (a::A.all) (a::A1.all):=((ie.same s9 _).trans zC).trans (ie.upd mem_cons_self _)
  rw[show jN ("none":Str) (.int (i1:Int)) (uI A1++[])=uI A1++(Uo i1)from rfl]
  generalize upd Aj a (.ins C A1.dx (uI A1++(Uo i1)))=T7 at X2 WU
  refine⟨_,rfl,a,A1.dx,_,rfl,X2.ob,rfl,_,rfl,fun _=>True,[.int n],⟨_,_,rfl,rfl,rfl⟩,?_⟩
  rw[eh n hn]
  intro q2 ws2 H12 L4 aba abb abd
  have ew2:=fQ abd
  subst ew2
  have c12:=X2.same L4
  refine⟨a,A1,(Uo i1),n,[]++WB,[],1,WC,[],[],[],eJ n,.ref q2,rfl,c12,hn.2,by decide,ivh n,⟨q2,_,rfl,.inl ⟨nF (Hy:=H12) X2 aba,.inl abb⟩,bZ _⟩,fun i2 H13 A2 mo2 vB c13 hi2 CA Uk=>?_⟩
  refine⟨_,rfl,a,C,A2.dx,_,rfl,c13.ob,T.cl,T.wh,(by show 9<1000;decide),?_⟩
  have c14:=c13.O4 (uv i1 i2)
  rw[show jN ("whole":Str) (.int (i2:Int)) (uI A2++(Uo i1))=uI A2++uv i1 i2 from rfl]
  have Tf:ie H8 (upd H13 a (.ins C A2.dx (uI A2++uv i1 i2))) (a::A.all) (a::A2.all):=((WU.trans (ie.same L4 _)).trans CA).trans (ie.upd mem_cons_self _)
  refine k _ A2 ([]++WB++mo2) i1 i2 vB c14 (bW hi1) hi2 (fun x u hx h1 h2=>?_) (fun x hx=>?_) (fun x hx=>gr x (Tf.gr x hx))
  ·refine Tf.kp x u (fun hm=>?_) (kp x u hx h1)
   rcases mem_cons.mp hm with z|z
   ·exact hx z
   ·rcases frF x z with z|z
    ·exact h2 z
    ·rw[z]at h1;cases h1
  ·rcases Tf.nw x (mem_cons_of_mem _ hx)with z|z
   ·rcases mem_cons.mp z with z|z
    ·rw[z]at hx
     exact absurd hx (nodup_cons.mp c14.nd).1
    ·exact frF x z
   ·exact .inr (gr x z)
end
end DL.oH
namespace DL.oH
open PySem PySem.Spec PyProof.Rows L2 DL
theorem Tg{α:Type}(r:R α)(c:Str):r.ne≠.err c:=by cases r<;>exact fun z=>nomatch z
structure CbM(P:Program)(w:World)(K:PySem.W.Frag)(mg:Str->Option Value)(base:Heap)(C:Addr) where
 fI:Addr
 dI:FuncData
 fP:Addr
 dP:FuncData
 fT:Addr
 dT:FuncData
 M:Mk K C fI
 bI:Binds K dI ["self","n"] []
 GI:cu P w K mg base kC 4 fI dI ["self","n"] (Pw K C)
 mP:Meth K C "put" fP
 bP:Binds K dP ["self","row"] []
 GP:cu P w K mg base kC 7 fP dP ["self","row"] (Pq K C)
 mT:Meth K C "form_told" fT
 bT:Binds K dT ["self"] []
 GT:cu P w K mg base kC 1 fT dT ["self"] (Pu K C)
section
variable{P:Program}{w:World}{K:PySem.W.Frag}{mg:Str->Option Value}{base:Heap}
theorem Th{C:Addr}(T:Lc K mg C)(Z:CbM P w K mg base C)(t:Tb K mg)(G_r:Ud P w K mg base 3 t.cT t.cU ["steps"] bf):
  Ok P w K mg base 9 t.fW t.fX ["n","steps"] dR:=by
 refine t.jr.F.ok eM (fun vs H Q E h=>?_) (fun cdv A outer s H vs Q E hr h=>?_)
 ·obtain⟨Pa,ds,i,h⟩:=h
  match ds,h with
  |[.int n,d],h=>
   obtain⟨v,r,rfl,_,v',r',rfl,_,e⟩:=i
   have e':r'=[]:=e
   subst e'
   rfl
 ·obtain⟨Pa,ds,i,h⟩:=h
  obtain⟨n,d,rfl⟩:∃n d,ds=[.int n,d]:=by
   match ds,h with
   |[.int n,d],h=>exact⟨n,d,rfl⟩
  obtain⟨v0,r0,rfl,i0,v1,r1,rfl,i1,e2⟩:=i
  have TZ:r1=[]:=e2
  have e0':v0=.int n:=i0
  subst TZ e0'
  cases em:dR [.int n,d]with
  |bad=>rw[em]at h;exact h.elim
  |err c=>exact absurd em (Tg _ c)
  |ok abe=>
  rw[em]at h
  have em':R.bind (bf [d]) (fun rs=> @ite _ ((1<=n/\n<=7)/\rs.length<=40/\∀r∈rs,bB n.toNat r) (propDecidable _) (R.bind (D5 [.val (.int n),.val d,.no,.no,.val (uw n.toNat (fM n.toNat rs))]) ah) .bad)=.ok abe:=R.bM em
  obtain⟨rs,hrs,WV⟩:=R.eg em'
  by_cases hg:(1<=n/\n<=7)/\rs.length<=40/\∀r∈rs,bB n.toNat r
  case neg=>
   rw[if_neg hg]at WV
   cases WV
  case pos=>
  rw[if_pos hg]at WV
  obtain⟨hn,afr,WW⟩:=hg
  obtain⟨m,rfl⟩:∃m:Nat,n=m:=⟨n.toNat,by omega⟩
  rw[toNat_natCast]at WV WW
  have hu:=qM hr
  refine⟨_,aF (dq (i:=2) eM.nd rfl (Or.inl rfl) (LD Z.M Z.GI (hr.mono (by decide)) (by rfl) T.mgC Z.bI .nil nj (aB (pv 0) aN)))
   (aF (G8 PassesOwn.never rfl (uU (dZ (E:=fun _ _ _=>False) G_r (hr.mono (by decide)) (by rfl) t.bR.m t.bR.F.kp t.bR.b .nil kG (aB (pv 1) aN))) (yQ (i:=3) eM.nd rfl (Or.inl rfl))
    (bU (gB (iN (pv 2) T.cl Z.mP Z.GP (hr.mono (by decide)) Z.bP .nil nj (aB (pv 3) aN)) rfl)))
   (aF (dq (i:=4) eM.nd rfl (Or.inl rfl) (Hh (pv 2) T.cl Z.mT Z.GT (hr.mono (by decide)) Z.bT .nil nj))
   (aY (eY (E:=EN) (xM (az (bj cY bw (PE.aC (vW (nD 4) (PE.aC cI))) (PE.aC (VY rfl t.JO (PE.jP (ui (Me (N:=["step"]) (nt:=1) (caps:=[]) (ae iH) ["n","steps","comb","row","found"] (by decide +kernel)) rfl (BX (iL (nD 1))) (Kp.ok (zb (nt:=1) 0)) (fun _ _ _ _ _=>(xu 0 (by show Nodup (["step"]:List Str);decide +kernel))) (fun _ _ _ _ _=>T4) (fun _ _ _ _ _=>(vW (nD 0) (PE.aC cI)))))))) (az (vW (nD 4) (PE.aC cI)) bC))))))),?_⟩
  refine⟨_,rfl,fun x dx hx hdx hne=>?_⟩
  refine⟨x,dx,m,rfl,by omega,ar,⟨_,by rw[ai hne];exact ar⟩,Ne.symm hne,fun H1 A1 X3 zn wn WC c1 hz1 hw1 XW nw1 Lg=>⟨rfl,?_⟩⟩
  have s01:aM H H1:=fun y u hy=>by
   have hyx:y≠x:=fun z=>by rw[z,hx]at hy;cases hy
   have hyd:y≠dx:=fun z=>by rw[z,hdx]at hy;cases hy
   exact XW y u hyx (by rw[ai hyx,ai hyd];exact hy) hyd
  have nF1:∀y∈x::A1.all,H y=none:=fun y hy=>by
   rcases mem_cons.mp hy with rfl|hy
   ·exact hx
   ·rcases nw1 y hy with rfl|hy
    ·exact hdx
    ·by_cases z1:y=x
     ·rw[z1];exact hx
     ·by_cases z2:y=dx
      ·rw[z2];exact hdx
      ·rw[ai z1,ai z2]at hy;exact hy
  refine⟨_,rfl,fun _=>True,[d],⟨_,_,rfl,(i1.same s01).weak,rfl⟩,?_⟩
  rw[hrs]
  intro la as H2 L4 WX
  have c2:=c1.same L4
  have hlen:=WX.len
  have asF:∀b∈la::as,b∉x::A1.all:=fun b hb hF=>by
   obtain⟨o,ho⟩:=c1.there hF
   rw[WX.fr b hb]at ho
   cases ho
  refine⟨la,rfl,⟨_,cX.of WX.ha⟩,G9 (K:=K) (a:=la) (xs:=as.map V.ref) (fun i σ Hx=>∃(A2:Ad)(mo:List RP)(ls:List Nat)(B2:Nat)(vB w6 lo2 Lf:List (List Key×V))(rv:Option V),σ=[some (.int (m:Int)),some v1,some (.ref x),rv,none]/\hU C Hx x A2 (uv zn wn) m (X3++mo) (nI ls) B2 vB w6 lo2 Lf/\
    cQ (X3++mo) ls (fM m (rs.take i))/\B2<=2+402*41*i/\i<=rs.length/\ie H2 Hx (x::A1.all) (x::A2.all)) ⟨A1,[],[],2,WC,[],[],[],none,rfl,by rw[append_nil];exact c2,rfl,by omega,zero_le _,ie.refl _ _⟩ ?_ ?_ ?_⟩
  ·rintro i σ Hx hi ⟨A2,mo,ls,B2,vB,w6,lo2,Lf,rv,rfl,c3,hL,hB,hir,sH⟩
   exact cX.of (sH.kp la _ (asF la (by simp)) WX.ha)
  ·rintro i y σ Hx hy ⟨A2,mo,ls,B2,vB,w6,lo2,Lf,rv,rfl,c3,hL,hB,hir,sH⟩
   have hia:i<as.length:=by
    have:=(List.getElem?_eq_some_iff.mp hy).1
    rwa [length_map]at this
   have WY:i<rs.length:=by rw[<-hlen];exact hia
   rw[getElem?_map,getElem?_eq_getElem hia]at hy
   cases hy
   have hr1:rs[i]?=some rs[i]:=getElem?_eq_getElem WY
   have hb2:=WX.it i as[i] rs[i] (getElem?_eq_getElem hia) hr1
   have hbF:=asF as[i] (mem_cons_of_mem _ (getElem_mem _))
   have ZO:=sH.kp _ _ hbF hb2
   have abg:as[i]∉x::A2.all:=fun hF=>by
    rcases sH.nw _ hF with z|z
    ·exact hbF z
    ·rw[hb2]at z;cases z
   have hcl:=rE m (rs.take i) []
   have MU:(fM m (rs.take i)).length<=40:=by
    unfold fM
    rw[length_nil,length_take]at hcl
    omega
   refine⟨_,rfl,x,A2.dx,_,rfl,c3.ob,rfl,_,rfl,x,A2,zn,wn,m,X3++mo,ls,fM m (rs.take i),B2,vB,w6,lo2,Lf,(rs[i],vq rs[i]),.ref as[i],rfl,c3,hL,bW hz1,by omega,by omega,by omega,oF (WW _ (getElem_mem _)),⟨as[i],_,rfl,.inl ⟨abg,.inl ZO⟩,bZ _⟩,fun H4 A4 Ec ls4 Wt Wu lo4 ke4 c4 hL4 S5=>?_⟩
   rw[List.append_assoc]at c4 hL4
   exact⟨A4,mo++Ec,ls4,_,Wt,Wu,lo4,ke4,_,rfl,c4,by rw[F8 hr1];exact hL4,by omega,WY,sH.trans S5⟩
  ·rintro σ Hx ⟨A2,mo,ls,B2,vB,w6,lo2,Lf,rv,rfl,c3,hL,hB,hir,sH⟩
   rw[length_map,hlen,take_length]at hL
   have hcl:=rE m rs []
   have MU:(fM m rs).length<=1000:=by
    unfold fM
    rw[length_nil]at hcl
    omega
   refine⟨_,rfl,x,A2.dx,_,rfl,c3.ob,rfl,x,A2,zn,wn,m,X3++mo,ls,fM m rs,B2,vB,w6,lo2,Lf,rfl,c3,hL,bW hw1,MU,fun fv H5 s5 i5=>?_⟩
   have sHx:aM H Hx:=fun y u hy=>sH.kp y u (fun hF=>by rw[nF1 y hF]at hy;cases hy) (L4 _ _ (s01 _ _ hy))
   have sH5:=sHx.trans s5
   refine⟨⟨Pa,H⟩,[.val (.int (m:Int)),.val d,.no,.no,.val (uw m (fM m rs))],[],⟨rfl,sH5,fun i dd e=>?_,fun i xs e=>?_,fun i j xs ys b e=>?_,(fun b hb=>nomatch hb),fun i v e=>?_,BV.none fun i w e=>?_⟩,?_⟩
   ·match i with
    |0=>cases e;exact⟨_,rfl,rfl⟩
    |1=>cases e;exact⟨_,rfl,Is.ext ⟨fun a o p _=>⟨.inl p,fun z=>nomatch z⟩,fun a o _ q=>sH5 a o q⟩ _ _ i1⟩
    |2=>cases e
    |3=>cases e
    |4=>cases e;exact⟨_,rfl,Is.ext ⟨fun a o p _=>⟨.inr (sHx.free p),fun z=>nomatch z⟩,fun a o _ q=>q⟩ _ _ i5⟩
    |i+5=>cases e
   ·match i with
    |0=>cases e
    |1=>cases e
    |2=>cases e
    |3=>cases e
    |4=>cases e
    |i+5=>cases e
   ·match i with
    |0=>cases e
    |1=>cases e
    |2=>cases e
    |3=>cases e
    |4=>cases e
    |i+5=>cases e
   ·match i with
    |0=>cases e
    |1=>cases e
    |2=>cases e
    |3=>cases e
    |4=>cases e
    |i+5=>cases e
   ·match i with
    |0=>cases e
    |1=>cases e
    |2=>cases e
    |3=>cases e
    |4=>cases e
    |i+5=>cases e
   ·obtain⟨o,ho,hv⟩:=R.eg WV
    obtain⟨dd,hdd,ho2⟩:=R.eg (show R.bind _ (fun v1=>R.ok (Out.rt v1))=.ok o from ho)
    cases ho2
    cases hv
    exact vc ho fun v H' sH' VL=>h v H' sH' (Is.ext ⟨fun a o p _=>p.1,fun a o _ q=>q⟩ _ _ VL)
end
end DL.oH
namespace DL
open PySem PySem.Spec PyProof.Rows L2
def dU:List Int->List Int->Option (List Int)
 |[],o=>some o
 |k::w,o=>if k<0\/aa o k.toNat<aa o (k-1).toNat then none else dU w (cK o (k-1).toNat)
theorem jM{n a:Nat}{o w:List Int}:dU (((a:Int)+1)::w) o=if aa o (a+1)<aa o a then none else dU w (cK o a):=by
 conv=>lhs;unfold dU
 rw[show((a:Int)+1).toNat=a+1 by omega,show((a:Int)+1-1).toNat=a by omega]
 by_cases h:aa o (a+1)<aa o a
 ·rw[if_pos (.inr h),if_pos h]
 ·rw[if_neg (by rintro(z|z);omega;exact h z),if_neg h]
def Ps(n:Nat)(w:List Int):Prop:=∀k∈w,∃a:Nat,k=(a:Int)+1/\a+1<n
def ko(w o:List Int):List Int:=w.foldl (fun o k=>cK o (k-1).toNat) o
theorem Eh(f:Int->Int):∀(l:List Int)(a:Nat),cK (l.map f) a=(cK l a).map f
 |[],a=>by cases a<;>rfl
 |[x],0=>rfl
 |[x],a+1=>by cases a<;>rfl
 |x::y::l,0=>rfl
 |x::y::l,a+1=>by
  show cK (f x::map f (y::l)) (a+1)=_
  rw[qg,qg,Eh f (y::l) a]
  rfl
theorem JX{n a:Nat}(h:a+1<n):cK (upTo n) a=(upTo n).map (sg a):=by
 refine aR (by rw[bE,length_map]) fun j hj=>?_
 rw[bE,ak]at hj
 have e:=bg (r:=upTo n) (a:=a) (p:=j) (by rw[ak];exact hj)
 unfold qz at e
 rw[e,bx _ _ (by rw[ak];exact h),ao hj]
 unfold sg
 by_cases h1:j=a
 ·rw[if_pos h1,ao (by omega),if_pos (show(j:Int)=a by omega)]
  omega
 ·rw[if_neg h1,if_neg (show¬(j:Int)=a by omega)]
  by_cases h2:j=a+1
  ·rw[if_pos h2,ao (by omega),if_pos (show(j:Int)=a+1 by omega)]
  ·rw[if_neg h2,if_neg (show¬(j:Int)=a+1 by omega)]
theorem zD(f:Int->Int):∀(w o:List Int),ko w (o.map f)=(ko w o).map f
 |[],o=>rfl
 |k::w,o=>by
  show ko w (cK (o.map f) (k-1).toNat)=(ko w (cK o (k-1).toNat)).map f
  rw[Eh,zD f w]
theorem nE(n:Nat):Iv n (upTo n) (upTo n):=⟨ak n,ak n,fun p hp=>by rw[ao hp,toNat_natCast];exact⟨by omega,by omega,ao hp⟩,fun p hp=>by rw[ao hp,toNat_natCast];exact⟨by omega,by omega,ao hp⟩⟩
theorem CC{n:Nat}:∀w:List Int,Ps n w->Iv n (ko w.reverse (upTo n)) (ko w (upTo n))
 |[],_=>nE n
 |k::w,h=>by
  obtain⟨a,rfl,ha⟩:=h k (by simp)
  have ih:=CC w fun x hx=>h x (by simp[hx])
  rw[reverse_cons]
  have e1:ko (((a:Int)+1)::w) (upTo n)=qz (ko w (upTo n)) a:=by
   show ko w (cK (upTo n) ((a:Int)+1-1).toNat)=_
   rw[show((a:Int)+1-1).toNat=a by omega,JX ha,zD]
   rfl
  have e2:ko (w.reverse++[(a:Int)+1]) (upTo n)=cK (ko w.reverse (upTo n)) a:=by
   unfold ko
   rw[foldl_append]
   show cK _ ((a:Int)+1-1).toNat=_
   rw[show((a:Int)+1-1).toNat=a by omega]
  rw[e1,e2]
  exact(ih.symm.step ha).symm
theorem Pz{n:Nat}{o s:List Int}(h:Iv n o s){a:Nat}(ha:a+1<n):aa o a≠aa o (a+1):=fun e=>by
 have:=h.symm.GR (v:=a) (w:=a+1) (by omega) ha e
 omega
theorem Ei{n:Nat}{o s:List Int}(h:Iv n o s){a:Nat}(ha:a+1<n):fU (cK o a)=fU o+1/\aa o a<aa o (a+1)\/fU (cK o a)+1=fU o/\aa o (a+1)<aa o a:=by
 have e:=vk o a [] (by rw[h.lr];exact ha)
 have d:=Pz h ha
 unfold fU
 by_cases c:aa o a<aa o (a+1)
 ·rw[if_neg (by omega),if_pos c]at e
  exact .inl ⟨by omega,c⟩
 ·rw[if_pos (by omega),if_neg c]at e
  exact .inr ⟨by omega,by omega⟩
theorem oV{n:Nat}:∀(w o s z:List Int),Ps n w->Iv n o s->dU w o=some z->z=ko w o/\fU z=fU o+w.length
 |[],o,s,z,_,_,h=>by cases h;exact⟨rfl,rfl⟩
 |k::w,o,s,z,hw,hi,h=>by
  obtain⟨a,rfl,ha⟩:=hw k (by simp)
  rw[jM (n:=n)]at h
  split at h
  ·cases h
  ·rename_i hc
   obtain⟨e1,e2⟩:=oV w (cK o a) (qz s a) z (fun x hx=>hw x (by simp[hx])) (hi.symm.step ha).symm h
   have:=Ei hi ha
   refine⟨?_,by rw[e2,length_cons];omega⟩
   rw[e1]
   show _=ko w (cK o ((a:Int)+1-1).toNat)
   rw[show((a:Int)+1-1).toNat=a by omega]
theorem A7{n:Nat}:∀(w o s:List Int),Ps n w->Iv n o s->fU (ko w o)<=fU o+w.length/\(fU (ko w o)=fU o+w.length->dU w o=some (ko w o))
 |[],o,s,_,_=>⟨Nat.le_refl _,fun _=>rfl⟩
 |k::w,o,s,hw,hi=>by
  obtain⟨a,rfl,ha⟩:=hw k (by simp)
  have e0:ko (((a:Int)+1)::w) o=ko w (cK o a):=by
   show ko w (cK o ((a:Int)+1-1).toNat)=_
   rw[show((a:Int)+1-1).toNat=a by omega]
  obtain⟨e1,e2⟩:=A7 w (cK o a) (qz s a) (fun x hx=>hw x (by simp[hx])) (hi.symm.step ha).symm
  rw[jM (n:=n),e0,length_cons]
  rcases Ei hi ha with⟨c1,c2⟩|⟨c1,c2⟩
  ·exact⟨by omega,fun h=>by rw[if_neg (by omega)];exact e2 (by omega)⟩
  ·exact⟨by omega,fun h=>by omega⟩
theorem MV:∀n:Nat,n<8->fU (upTo n)=0:=by decide +kernel
theorem JY{n:Nat}{w z:List Int}(hw:Ps n w)(h:dU w (upTo n)=some z):dU w.reverse (upTo n)=some (ko w.reverse (upTo n)):=by
 obtain⟨e1,e2⟩:=oV w _ _ z hw (nE n) h
 refine(A7 w.reverse (upTo n) (upTo n) (fun k hk=>hw k (by simpa using hk)) (nE n)).2 ?_
 rw[wF (CC w hw),<-e1,e2,length_reverse]
theorem Ej{n:Nat}{w z:List Int}(hw:Ps n w)(h:dU w (upTo n)=some z):Iv n z (ko w.reverse (upTo n)):=by
 rw[(oV w _ _ z hw (nE n) h).1]
 exact(CC w hw).symm
theorem yz:∀(w o:List Int)(k:Int),dU (w++[k]) o=(dU w o).bind fun z=>dU [k] z
 |[],o,k=>rfl
 |x::w,o,k=>by
  rw[cons_append]
  unfold dU
  split
  ·rfl
  ·exact yz w _ k
theorem Iv.nd {n:Nat}{r s:List Int}(h:Iv n r s):s.Nodup:=by
 unfold Nodup
 rw[List.pairwise_iff_getElem]
 intro i j hi hj hij e
 rw[h.ls]at hi hj
 have e2:aa s i=aa s j:=by
  unfold aa
  rw[getElem?_eq_getElem,getElem?_eq_getElem]
  ·exact e
 have:=h.GR hi hj e2
 omega
theorem tU{n:Nat}{r s:List Int}(h:Iv n r s):bB n r:=by
 refine(List.perm_ext_iff_of_nodup h.symm.nd (wC n)).mpr fun x=>?_
 rw[mem_upTo]
 constructor
 ·intro hx
  obtain⟨p,hp,rfl⟩:=getElem_of_mem hx
  rw[h.lr]at hp
  have:=h.rs p hp
  rw[show aa r p=r[p]by
   unfold aa
   rw[getElem?_eq_getElem]
   rfl]at this
  exact⟨this.1,this.2.1⟩
 ·rintro⟨h0,h1⟩
  have:=(h.idx (v:=x.toNat) (by omega)).1
  rwa [show((x.toNat:Nat):Int)=x by omega]at this
def fl(n:Nat)(l:List Int):List Int:=l.map fun x=>(n:Int)-1-x
theorem mR(n:Nat)(l:List Int):(fl n l).length=l.length:=length_map _
theorem rY{n:Nat}{l:List Int}{p:Nat}(h:p<l.length):aa (fl n l) p=(n:Int)-1-aa l p:=by
 have:=cP h
 unfold fl
 conv=>lhs;unfold aa
 rw[getElem?_map,this]
 rfl
theorem fu{l:List Int}{p:Nat}(h:p<l.length):aa l.reverse p=aa l (l.length-1-p):=by
 unfold aa
 rw[getElem?_reverse h]
theorem PB(n:Nat):fl n (upTo n).reverse=upTo n:=by
 refine aR (by rw[mR,length_reverse]) fun p hp=>?_
 rw[mR,length_reverse,ak]at hp
 rw[rY (by rw[length_reverse,ak];exact hp),fu (by rw[ak];exact hp),ak,ao (by omega),ao hp]
 omega
theorem JZ{n:Nat}{r:List Int}(h:bB n r):bB n (fl n r):=by
 have e:fl n (upTo n)=(upTo n).reverse:=by
  rw[<-PB n]
  unfold fl
  rw[map_reverse,reverse_reverse,<-map_reverse]
  congr 1
  have:=PB n
  unfold fl at this
  rw[this]
 exact(Perm.map _ h).trans (by
  show(fl n (upTo n)).Perm _
  rw[e]
  exact reverse_perm _)
theorem Ek{n:Nat}{r:List Int}(h:bB n r):bB n r.reverse:=(reverse_perm r).trans h
theorem kZ(n:Nat)(hn:n<=7):cZ [.int n]=.ok (aK (upTo n)):=by
 unfold cZ wx
 simp -implicitDefEqProofs only [mS,mD,mF,gm,aP,reduceAdd,reduceSub,reduceEqDiff,reduceIte,ah,aj,aG,aH,aI,aJ]
 rw[yi _ (by omega),toNat_natCast,yt]
 simp -implicitDefEqProofs only [reduceIte,ah,aj,aG,aH,aI,aJ,gK]
theorem Gf{n:Nat}{r s:List Int}(h:Iv n r s)(hn:n<=7):rA [.lst (aK r)]=.ok (aK (fl n s)):=by
 unfold rA DP
 simp -implicitDefEqProofs only [mS,mD,mF,gm,aP,reduceAdd,reduceSub,reduceEqDiff,reduceIte,ah,aj,aG,aH,aI,aJ]
 rw[pC h hn]
 simp -implicitDefEqProofs only [reduceIte,ah,aj,aG,aH,aI,aJ,jk]
 rw[qy (fun k=>(n:Int)-1-k) s fun k _=>⟨_,jy _ _ _,rfl,by
  unfold wB lI
  simp -implicitDefEqProofs only [reduceIte,ah,aj,aG,aH,aI,aJ,bc,h.lr]⟩]
 simp -implicitDefEqProofs only [reduceIte,ah,aj,aG,aH,aI,aJ,R.oA]
 rw[b7 (by rw[length_map,h.ls];omega)]
 simp -implicitDefEqProofs only [reduceIte,ah,aj,aG,aH,aI,aJ,gK]
 rfl
theorem CD{n:Nat}{r:List Int}(h:r.length=n)(hn:n<=7):fJ [.lst (aK r)]=.ok (aK (fl n r.reverse)):=by
 unfold fJ qc
 simp -implicitDefEqProofs only [mS,mD,mF,gm,aP,reduceAdd,reduceSub,reduceEqDiff,reduceIte,ah,aj,aG,aH,aI,aJ,DD,jk]
 rw[qy (fun k=>(n:Int)-1-k) r.reverse fun k _=>⟨_,jy _ _ _,rfl,by
  unfold lS lI
  simp -implicitDefEqProofs only [reduceIte,ah,aj,aG,aH,aI,aJ,bc,h]⟩]
 simp -implicitDefEqProofs only [reduceIte,ah,aj,aG,aH,aI,aJ,R.oA]
 rw[b7 (by rw[length_map,length_reverse];omega)]
 simp -implicitDefEqProofs only [reduceIte,ah,aj,aG,aH,aI,aJ,gK]
 rfl
theorem J0{b:D->DE->R Out}{x:D}{xs:List D}{e e':DE}(h:b x e=.ok (.nx e')):gG b (x::xs) e=gG b xs e':=by
 rw[gG,h];rfl
theorem tV(gs:List (List Int))(c:List Int):Av (gs++[c]) (.int (-1))=.ok (gs.length,c):=by
 have hk:qH (gs++[c]).length (-1)=some gs.length:=by
  unfold L2.qH
  rw[if_neg (by decide),length_append,length_singleton,if_pos (by omega)]
  congr 1
  omega
 have hg:(gs++[c])[gs.length]?=some c:=by simp
 unfold Av
 simp -implicitDefEqProofs only [hk,hg]
theorem El{ix:Nat}{env:DE}{nss:List (List Int)}{k:Nat}{l:List Int}{v:Int}(h:l.length<1000):B7 ix env nss (k,l) (.int v)=.ok (.nx (env.set ix (.deep (Ct.ls (nss.set k (l++[v])))))):=if_pos (lt_of_lt_of_le h (by decide))
theorem Em{ix:Nat}{env:DE}{nss:List (List Int)}{ns:List Int}(h:nss.length<1000):Ik ix env nss ns=.ok (.nx (env.set ix (.deep (Ct.ls (nss++[ns]))))):=if_pos (lt_of_lt_of_le h (by decide))
theorem j3(nss:List (List Int))(r:DE):gb 0 (.deep (Ct.ls nss)::r)=.ok nss:=rfl
theorem j5(i:Nat)(a:Sl)(r:DE):gb (i+1) (a::r)=gb i r:=rfl
theorem J1(nss:List (List Int))(r:DE):aX 0 (.deep (Ct.ls nss)::r)=.ok (.lst (nss.map fun ns=>.lst (aK ns))):=rfl
theorem Ti{n:Nat}(hn:n<=7){o:List Int}(ho:o.length=n)(s0 s1 s3:Sl){a:Nat}(ha:a+1<n)(hc:¬aa o (a+1)<aa o a):kM (.int ((a:Int)+1)) [s0,s1,.own (aK o),s3]=.ok (.nx [s0,s1,.own (aK (cK o a)),.val (.int ((a:Int)+1))]):=by
 unfold kM
 have h0:¬(a:Int)+1<0:=by omega
 simp -implicitDefEqProofs only [jy,mS,mD,mF,gm,aP,reduceAdd,reduceSub,reduceEqDiff,reduceIte,ah,aj,aG,aH,aI,aJ,h0,decide_false]
 rw[fz (by omega) (by omega),fz (by omega) (by omega),show((a:Int)+1-1).toNat=a by omega,show((a:Int)+1).toNat=a+1 by omega]
 simp -implicitDefEqProofs only [reduceIte,ah,aj,aG,aH,aI,aJ,hc,decide_false]
 rw[tH (by omega) (by omega)]
 simp -implicitDefEqProofs only [reduceIte,ah,aj,aG,aH,aI,aJ]
theorem A8{n:Nat}(hn:n<=7)(s0 s1:Sl):∀(w o z:List Int)(s3:Sl),Ps n w->o.length=n->dU w o=some z->∃s3',gG kM (aK w) [s0,s1,.own (aK o),s3]=.ok (.nx [s0,s1,.own (aK z),s3'])
 |[],o,z,s3,_,_,h=>by cases h;exact⟨s3,rfl⟩
 |k::w,o,z,s3,hv,ho,h=>by
  obtain⟨a,rfl,ha⟩:=hv k (by simp)
  rw[jM (n:=n)]at h
  split at h
  ·cases h
  ·rename_i hc
   rw[<-qX,J0 (Ti hn ho s0 s1 s3 ha hc)]
   exact A8 hn s0 s1 w (cK o a) z _ (fun x hx=>hv x (by simp[hx])) (by rw[bE,ho]) h
theorem yA{n:Nat}(hn:n<=7){w z:List Int}(hv:Ps n w)(h:dU w (upTo n)=some z):lU [.int n,.lst (aK w)]=.ok (aK z):=by
 unfold lU AG
 simp -implicitDefEqProofs only [mS,mD,mF,gm,aP,reduceAdd,reduceSub,reduceEqDiff,reduceIte,ah,aj,aG,aH,aI,aJ]
 rw[kZ n hn]
 simp -implicitDefEqProofs only [reduceIte,ah,aj,aG,aH,aI,aJ]
 obtain⟨s3,e⟩:=A8 hn (.val (.int n)) (.val (.lst (aK w))) w (upTo n) z .no hv (ak n) h
 rw[e]
 simp -implicitDefEqProofs only [reduceIte,ah,aj,aG,aH,aI,aJ,gK]
def fO(l:List Int)(k:Int):List Int:=if l.getLast?=some (-k)then l.dropLast else l++[k]
def gy(s w:List Int):List Int:=w.foldl fO s
theorem J2(s a b:List Int):gy s (a++b)=gy (gy s a) b:=foldl_append
theorem w9:∀(w s:List Int),(gy s w).length<=s.length+w.length
 |[],s=>by simp[gy]
 |k::w,s=>by
  have:=w9 w (fO s k)
  show(gy (fO s k) w).length<=_
  have h2:(fO s k).length<=s.length+1:=by
   unfold fO
   split
   ·rw[List.length_dropLast];omega
   ·simp
  rw[length_cons];omega
theorem CF(l:List Int):ig l (-1)=l.getLast?:=by
 rw[List.getLast?_eq_getElem?]
 unfold L2.ig L2.qH
 rw[if_neg (by decide)]
 cases l with
 |nil=>rfl
 |cons x r=>
  rw[if_pos (by simp;omega)]
  show(x::r)[(-1+((x::r).length:Int)).toNat]?=_
  congr 1
  simp;omega
theorem CG(w:List Int)(hw:w.length<=100000):lR [.lst (aK w)]=.ok (aK (gy [] w)):=by
 unfold lR yp
 simp -implicitDefEqProofs only [mS,mD,mF,gm,aP,reduceAdd,reduceSub,reduceEqDiff,reduceIte,ah,aj,aG,aH,aI,aJ]
 obtain⟨s',e,hj⟩:=qu (S:=List Int×Sl) (b:=mE) (fun i s=>s.1=gy [] (w.take i))
  (fun s=>[.val (.lst (aK w)),.own (aK s.1),s.2]) (aK w) 0 ([],.no) rfl (by
   rintro j ⟨l,s2⟩ x hs hx
   obtain⟨k,hk,rfl⟩:=DK hx
   rw[Nat.zero_add]at hs⊢
   have RA:l=gy [] (w.take j):=hs
   have XA:=w9 (w.take j) []
   rw[<-RA,length_take]at XA
   simp -implicitDefEqProofs only [length_nil]at XA
   refine⟨(fO l k,.val (.int k)),?_,by show fO l k=_;rw[AA hk,J2,RA];rfl⟩
   unfold mE fO
   simp -implicitDefEqProofs only [jy,reduceIte,ah,aj,aG,aH,aI,aJ,bc]
   cases l with
   |nil=>
    simp -implicitDefEqProofs only [length_nil,reduceIte,ah,aj,aG,aH,aI,aJ,Int.natCast_zero,Int.lt_irrefl,decide_false,List.getLast?_nil]
    rw[DC (by simp[aK])]
    rfl
   |cons y r=>
    have h0:(0:Int)<((y::r).length:Nat):=by simp
    generalize hyr:y::r=l at*
    simp -implicitDefEqProofs only [h0,decide_true,reduceIte,ah,aj,aG,aH,aI,aJ]
    rw[qW,CF]
    cases hq:l.getLast? with
    |none=>rw[<-hyr]at hq;simp at hq
    |some z=>
     simp -implicitDefEqProofs only [map_some,reduceIte,ah,aj,aG,aH,aI,aJ]
     by_cases hz:z= -k
     ·have Xv:(z== -k)=true:=by rw[beq_iff_eq];exact hz
      subst hz
      simp -implicitDefEqProofs only [beq_self_eq_true,reduceIte,ah,aj,aG,aH,aI,aJ]
      rw[Mg (by rw[bc];omega)]
      simp -implicitDefEqProofs only [reduceIte,ah,aj,aG,aH,aI,aJ]
      show _=R.ok (Out.nx [_,Sl.own (aK l.dropLast),_])
      unfold aK
      rw[map_dropLast]
     ·have Xv:(z== -k)=false:=beq_false_of_ne hz
      have hz2:¬(some z=some (-k)):=fun e=>hz (Option.some.inj e)
      simp -implicitDefEqProofs only [Xv,reduceIte,ah,aj,aG,aH,aI,aJ]
      rw[DC (by rw[bc];omega),if_neg hz2]
      simp -implicitDefEqProofs only [reduceIte,ah,aj,aG,aH,aI,aJ]
      unfold aK
      rw[map_append]
      rfl)
 obtain⟨l,s2⟩:=s'
 rw[Nat.zero_add,bc,take_length]at hj
 have Ce:l=gy [] w:=hj
 dsimp only at e
 rw[show([]:List D)=aK []from rfl,e,Ce]
 simp -implicitDefEqProofs only [reduceIte,ah,aj,aG,aH,aI,aJ,gK]
theorem A9:∀(w s:List Int),∀k∈gy s w,k∈s\/k∈w
 |[],s,k,h=>.inl h
 |x::w,s,k,h=>by
  rcases A9 w (fO s x) k h with h|h
  ·unfold fO at h
   split at h
   ·exact .inl (mem_of_mem_take (by rw[dropLast_eq_take]at h;exact h))
   ·rcases mem_append.mp h with h|h
    ·exact .inl h
    ·exact .inr (by rw[mem_singleton.mp h];exact mem_cons_self)
  ·exact .inr (mem_cons_of_mem _ h)
theorem MX(s0:Sl)(b k:Int)(hk:1<=k/\k<=7)(s2:Sl):jF (.int k) [s0,.val (.int b),s2]=.ok (.nx [s0,.val (.int (Builtin.bitOr b (1*2^(k-1).toNat))),.val (.int k)]):=by
 unfold jF
 simp -implicitDefEqProofs only [jy,mS,mD,mF,gm,aP,reduceAdd,reduceSub,reduceEqDiff,reduceIte,ah,aj,aG,aH,aI,aJ]
 rw[show Mp (.int 1) (.int (k-1))=some (.int (1*2^(k-1).toNat))from if_pos (by
  unfold Fi
  exact⟨by omega,by omega,by decide⟩)]
 simp -implicitDefEqProofs only [reduceIte,ah,aj,aG,aH,aI,aJ,FI]
theorem yB(s0:Sl):∀(ks:List Int)(b:Int)(s2:Sl),(∀k∈ks,1<=k/\k<=7)->∃s2',gG jF (aK ks) [s0,.val (.int b),s2]=.ok (.nx [s0,.val (.int (ks.foldl (fun b k=>Builtin.bitOr b (1*2^(k-1).toNat)) b)),s2'])
 |[],b,s2,_=>⟨s2,rfl⟩
 |k::ks,b,s2,h=>by
  rw[<-qX,J0 (MX s0 b k (h k (by simp)) s2)]
  exact yB s0 ks _ _ fun x hx=>h x (by simp[hx])
theorem MY:∀ks:List Int,(∀k∈ks,1<=k/\k<=7)->lT [.lst (aK ks)]=.ok (.int (Cq ks)):=fun ks h=>by
 unfold lT yq
 simp -implicitDefEqProofs only [mS,mD,mF,gm,aP,reduceAdd,reduceSub,reduceEqDiff,reduceIte,ah,aj,aG,aH,aI,aJ]
 obtain⟨s2,e⟩:=yB (.val (.lst (aK ks))) ks 0 .no h
 rw[e]
 simp -implicitDefEqProofs only [reduceIte,ah,aj,aG,aH,aI,aJ]
 rfl
theorem MZ(n:Nat):Iv n (upTo n).reverse (upTo n).reverse:=by
 have c:∀p,p<n->aa (upTo n).reverse p=((n-1-p:Nat):Int):=fun p hp=>by
  rw[fu (by rw[ak];exact hp),ak,ao (by omega)]
 have h:∀p,p<n->0<=aa (upTo n).reverse p/\aa (upTo n).reverse p<n/\aa (upTo n).reverse (aa (upTo n).reverse p).toNat=p:=fun p hp=>by
  rw[c p hp,toNat_natCast,c _ (by omega)]
  refine⟨by omega,by omega,?_⟩
  omega
 exact⟨by rw[length_reverse,ak],by rw[length_reverse,ak],h,h⟩
theorem M0(n:Nat)(hn:1<=n/\n<=7):wy [.int n]=.ok (aK (upTo n).reverse):=by
 unfold wy IX
 simp -implicitDefEqProofs only [mS,mD,mF,gm,aP,reduceAdd,reduceSub,reduceEqDiff,reduceIte,ah,aj,aG,aH,aI,aJ]
 have er:Ih [.int ((n:Int)-1),.int (-1),.int (-1)]=.ok (Ig ((n:Int)-1) (-1) (Builtin.Range.rangeSize ((n:Int)-1) (-1) (-1)).toNat):=if_pos (by unfold RC;omega)
 rw[er]
 have e2:Ig ((n:Int)-1) (-1) (Builtin.Range.rangeSize ((n:Int)-1) (-1) (-1)).toNat=aK (upTo n).reverse:=by
  have hc:n=1\/n=2\/n=3\/n=4\/n=5\/n=6\/n=7:=by omega
  rcases hc with rfl|rfl|rfl|rfl|rfl|rfl|rfl<;>rfl
 rw[e2]
 simp -implicitDefEqProofs only [reduceIte,ah,aj,aG,aH,aI,aJ,gK]
theorem cC(n:Nat):Iv n (upTo n) (upTo n):=⟨ak n,ak n,fun p hp=>by rw[ao hp,toNat_natCast];exact⟨by omega,by omega,ao hp⟩,fun p hp=>by rw[ao hp,toNat_natCast];exact⟨by omega,by omega,ao hp⟩⟩
inductive Rc (n:Nat):RP->RP->RP->RP->Prop
 |nil (p q:RP):Rc n p q p q
 |step {p q p' q':RP} {j:Nat}:j+1<n->aa p.1 j<aa p.1 (j+1)->aa q.2 (j+1)<aa q.2 j->Rc n (nv p j) (qB q j) p' q'->Rc n p q p' q'
theorem Rc.iv {n:Nat}{p q p' q':RP}(h:Rc n p q p' q'):Iv n p.1 p.2->Iv n q.1 q.2->Iv n p'.1 p'.2/\Iv n q'.1 q'.2:=by
 induction h with
 |nil p q=>exact fun a b=>⟨a,b⟩
 |step hj h1 h2 _ ih=>exact fun a b=>ih (bQ a hj) (dY b hj)
theorem Rc.ovr {n:Nat}{p q p' q' p0 q0:RP}(zU:Iv n p0.1 p0.2)(h:Rc n p q p' q'):∀y,Iv n p.1 p.2->Iv n q.1 q.2->uL n p0 q0 p q y->∃y',uL n p0 q0 p' q' y':=by
 induction h with
 |nil p q=>exact fun y _ _ o=>⟨y,o⟩
 |step hj h1 h2 _ ih=>exact fun y a b o=>ih _ (bQ a hj) (dY b hj) (o.step zU a b hj h1 h2)
theorem qE{n:Nat}:∀(f:Nat)(p q:RP),Iv n p.1 p.2->Iv n q.1 q.2->Rc n p q (cJ f p q).1 (cJ f p q).2
 |0,p,q,_,_=>.nil p q
 |f+1,p,q,ip,iq=>by
  cases h:(km p q).getLast? with
  |none=>rw[lX _ h];exact .nil p q
  |some k=>
   obtain⟨j,rfl,hj,h1,h2⟩:=mG ip iq (mem_of_getLast? h)
   rw[lW f h,show((j:Int)+1-1).toNat=j by omega]
   exact .step hj h1 h2 (qE f _ _ (bQ ip hj) (dY iq hj))
theorem uL.starts {n:Nat}{p q p' c' v:RP}(o:uL n p q p' c' v)(PD:Iv n p'.1 p'.2)(Lh:Iv n c'.1 c'.2)(hf:km p' c'=[]){a:Nat}(ha:a+1<n)(hp:aa p.1 a<aa p.1 (a+1))(hq:aa q.2 (a+1)<aa q.2 a):aa v.2 (a+1)<aa v.2 a:=by
 refine byContradiction fun hc=>?_
 have iv:=o.iy
 obtain⟨x1,x2,x3⟩:=iv.sr a (by omega)
 obtain⟨y1,y2,y3⟩:=iv.sr (a+1) ha
 have qa:=o.pq a (by omega)
 have qb:=o.pq (a+1) ha
 generalize hx:(aa v.2 a).toNat=x at*
 generalize hy:(aa v.2 (a+1)).toNat=y at*
 have hxy:x<y:=by
  have:x≠y:=fun e=>by rw[e,y3]at x3;omega
  omega
 obtain⟨i,i1,i2,f1,f2⟩:=switch (fun i=>decide (aa c'.2 i<aa q.2 a)) (y-x) x (by rw[decide_eq_false];omega) (by rw[show x+(y-x)=y by omega,decide_eq_true];omega)
 have f1:=of_decide_eq_false f1
 have f2:=of_decide_eq_true f2
 have hin:i+1<n:=by omega
 have t1:=(cR PD Lh).mp hf i hin (by omega)
 have t2:=o.aq i (i+1) (by omega) hin (by omega)
 obtain⟨g1,g2,g3⟩:=iv.rs i (by omega)
 obtain⟨h1,h2,h3⟩:=iv.rs (i+1) hin
 rw[o.pl i (by omega),o.pl (i+1) hin]at t1
 generalize hg:(aa v.1 i).toNat=g at*
 generalize hh:(aa v.1 (i+1)).toNat=h at*
 rcases lt_or_ge a g with c|c
 ·have gn:g≠a+1:=fun e=>by rw[e]at g3;omega
  have:=o.aq i y (by omega) (by omega) (by omega)
  omega
 ·have tg:aa p.1 g<=aa p.1 a:=by
   rcases lt_or_ge g a with d|d
   ·have:x≠i:=fun e=>by rw[e]at x3;omega
    exact Int.le_of_lt (o.ap g a d (by omega) (by omega))
   ·rw[show g=a by omega];exact Int.le_refl _
  rcases lt_or_ge a h with d|d
  ·have th:aa p.1 (a+1)<=aa p.1 h:=by
    rcases lt_or_ge (a+1) h with e|e
    ·have:i+1≠y:=fun z=>by rw[<-z]at y3;omega
     exact Int.le_of_lt (o.ap (a+1) h e (by omega) (by omega))
    ·rw[show h=a+1 by omega];exact Int.le_refl _
   omega
  ·have:=o.aq x (i+1) (by omega) hin (by omega)
   omega
theorem M4{a i j:Nat}(h:i<j)(hne:¬(i=a/\j=a+1)):sw a i<sw a j:=by
 unfold sw
 repeat' split
 all_goals omega
theorem zE{a:Nat}{x y:Int}(h:x<y)(hne:¬(x=a/\y=(a:Int)+1)):sg a x<sg a y:=by
 unfold sg
 repeat' split
 all_goals omega
theorem uL.pop {n:Nat}{p q p' c' v:RP}(o:uL n p q p' c' v)(ip:Iv n p.1 p.2)(iq:Iv n q.1 q.2){j:Nat}(hj:j+1<n)(hv:aa v.2 (j+1)<aa v.2 j):uL n (nv p j) (qB q j) p' c' (qB v j):=by
 have iv:=o.iy
 refine⟨dY iv hj,fun t ht=>?_,fun t ht=>?_,fun i i' Ug xW h=>?_,fun i i' Ug xW h=>?_,fun t ht=>?_⟩
 ·obtain⟨h1,h2,_⟩:=ip.sr t ht
  show aa p'.2 t=aa (cK v.2 j) (aa (qz p.2 j) t).toNat
  rw[bg (by rw[ip.ls];exact ht),dm (by rw[iv.ls];exact hj),Jw _ h1,o.pp t ht]
 ·show aa (cK q.2 j) t=aa c'.2 (aa (cK v.2 j) t).toNat
  rw[dm (by rw[iq.ls];exact hj),dm (by rw[iv.ls];exact hj),o.pq _ (wI hj ht)]
 ·change aa (cK v.2 j) i'<aa (cK v.2 j) i at h
  show aa (cK p.1 j) i<aa (cK p.1 j) i'
  rw[dm (by rw[iv.ls];exact hj),dm (by rw[iv.ls];exact hj)]at h
  rw[dm (by rw[ip.lr];exact hj),dm (by rw[ip.lr];exact hj)]
  have hne:¬(i=j/\i'=j+1):=fun⟨a,b⟩=>by
   subst a;subst b
   unfold sw at h
   rw[if_pos rfl,if_neg (by omega),if_pos rfl]at h
   omega
  exact o.ap _ _ (M4 Ug hne) (wI hj xW) h
 ·show aa (qz v.1 j) i<aa (qz v.1 j) i'
  have h2:=o.aq i i' Ug xW h
  rw[bg (by rw[iv.lr];omega),bg (by rw[iv.lr];exact xW)]
  refine zE h2 fun⟨a,b⟩=>?_
  obtain⟨_,_,e1⟩:=iv.rs i (by omega)
  obtain⟨_,_,e2⟩:=iv.rs i' xW
  rw[a,toNat_natCast]at e1
  rw[b,show((j:Int)+1).toNat=j+1 by omega]at e2
  omega
 ·obtain⟨h1,h2,_⟩:=iv.rs t ht
  show aa p'.1 t=aa (cK p.1 j) (aa (qz v.1 j) t).toNat
  rw[bg (by rw[iv.lr];exact ht),dm (by rw[ip.lr];exact hj),Jw _ h1,o.pl t ht]
theorem Rc.to {n:Nat}{p0 q0 p q p' c':RP}(h:Rc n p0 q0 p q):Iv n p0.1 p0.2->Iv n q0.1 q0.2->∀y,uL n p0 q0 p' c' y->Iv n p'.1 p'.2->Iv n c'.1 c'.2->km p' c'=[]->∃v,uL n p q p' c' v:=by
 induction h with
 |nil p q=>exact fun _ _ y o _ _ _=>⟨y,o⟩
 |step hj h1 h2 _ ih=>exact fun ip iq y o PD Lh hf=>ih (bQ ip hj) (dY iq hj) _ (o.pop ip iq hj (o.starts PD Lh hf hj h1 h2)) PD Lh hf
theorem uL.same {n:Nat}{p q p' c' v:RP}(o:uL n p q p' c' v)(ip:Iv n p.1 p.2)(iq:Iv n q.1 q.2)(PD:Iv n p'.1 p'.2)(Lh:Iv n c'.1 c'.2)(hf:km p q=[]):p'=p/\c'=q:=by
 have iv:=o.iy
 have hs:¬Lb n v:=fun⟨a,ha,hd⟩=>by
  have h1:=o.pq.Z1 iv Lh o.aq ha hd
  have h2:=o.ap a (a+1) (by omega) ha hd
  have:=(cR ip iq).mp hf a ha h1
  omega
 have e:=vx iv (cC n) hs
 have c:∀t,t<n->(aa (upTo n) t).toNat=t:=fun t ht=>by rw[ao ht];exact toNat_natCast t
 constructor
 ·refine jz PD ip (aR (by rw[PD.lr,ip.lr]) fun t ht=>?_)
  rw[PD.lr]at ht
  rw[o.pl t ht,e]
  dsimp only
  rw[c t ht]
 ·have e2:c'.2=q.2:=aR (by rw[Lh.ls,iq.ls]) fun t ht=>by
   rw[Lh.ls]at ht
   rw[o.pq t ht,e]
   dsimp only
   rw[c t ht]
  refine jz Lh iq (Iv.uniq (n:=n) (s:=q.2) ?_ iq)
  rw[<-e2]
  exact Lh
theorem Rc.one {n:Nat}{p0 q0 p q p' c':RP}(zU:Iv n p0.1 p0.2)(Ga:Iv n q0.1 q0.2)(h:Rc n p0 q0 p q)(hf:km p q=[])(h':Rc n p0 q0 p' c')(hf':km p' c'=[]):p'=p/\c'=q:=by
 obtain⟨y,o⟩:=h'.ovr zU _ zU Ga (uL.start zU (cC n))
 obtain⟨v,o2⟩:=h.to zU Ga y o (h'.iv zU Ga).1 (h'.iv zU Ga).2 hf'
 exact o2.same (h.iv zU Ga).1 (h.iv zU Ga).2 (h'.iv zU Ga).1 (h'.iv zU Ga).2 hf
theorem CH(f:Int->Int):∀(l:List Int)(a:Nat),cK (l.map f) a=(cK l a).map f
 |[],a=>by cases a<;>rfl
 |[x],0=>rfl
 |[x],a+1=>by cases a<;>rfl
 |x::y::l,0=>rfl
 |x::y::l,a+1=>by
  show cK (f x::map f (y::l)) (a+1)=_
  rw[qg,qg,CH f (y::l) a]
  rfl
inductive uA (n:Nat):List RP->List RP->Prop
 |here {p q:RP} {B:List RP} {j:Nat}:j+1<n->aa p.1 j<aa p.1 (j+1)->aa q.2 (j+1)<aa q.2 j->uA n (p::q::B) (nv p j::qB q j::B)
 |next {p:RP} {L L':List RP}:uA n L L'->uA n (p::L) (p::L')
inductive j6 (n:Nat):List RP->List RP->Prop
 |nil (L:List RP):j6 n L L
 |cons {L L' WZ:List RP}:uA n L L'->j6 n L' WZ->j6 n L WZ
theorem j6.trans {n:Nat}{L L' WZ:List RP}(h:j6 n L L'):j6 n L' WZ->j6 n L WZ:=by
 induction h with
 |nil=>exact id
 |cons s _ ih=>exact fun g=>.cons s (ih g)
theorem j6.next {n:Nat}(p:RP){L L':List RP}(h:j6 n L L'):j6 n (p::L) (p::L'):=by
 induction h with
 |nil=>exact .nil _
 |cons s _ ih=>exact .cons (.next s) ih
theorem j6.app {n:Nat}(A:List RP){L L':List RP}(h:j6 n L L'):j6 n (A++L) (A++L'):=by
 induction A with
 |nil=>exact h
 |cons p A ih=>exact ih.next p
theorem uA.M5 {n:Nat}(B:List RP){L L':List RP}(h:uA n L L'):uA n (L++B) (L'++B):=by
 induction h with
 |here hj h1 h2=>exact .here hj h1 h2
 |next _ ih=>exact .next ih
theorem j6.M5 {n:Nat}(B:List RP){L L':List RP}(h:j6 n L L'):j6 n (L++B) (L'++B):=by
 induction h with
 |nil=>exact .nil _
 |cons s _ ih=>exact .cons (s.M5 B) ih
theorem Rc.Ur {n:Nat}{p q p' q':RP}(h:Rc n p q p' q')(B:List RP):j6 n (p::q::B) (p'::q'::B):=by
 induction h with
 |nil=>exact .nil _
 |step hj h1 h2 _ ih=>exact .cons (.here hj h1 h2) ih
theorem uA.iv {n:Nat}{L L':List RP}(h:uA n L L'):aW n L->aW n L':=by
 induction h with
 |here hj h1 h2=>
  intro hI x hx
  rcases mem_cons.mp hx with rfl|hx
  ·exact bQ (hI _ (by simp)) hj
  ·rcases mem_cons.mp hx with rfl|hx
   ·exact dY (hI _ (by simp)) hj
   ·exact hI x (by simp[hx])
 |next _ ih=>
  intro hI x hx
  rcases mem_cons.mp hx with rfl|hx
  ·exact hI _ (by simp)
  ·exact ih (fun y hy=>hI y (by simp[hy])) x hx
theorem j6.iv {n:Nat}{L L':List RP}(h:j6 n L L'):aW n L->aW n L':=by
 induction h with
 |nil=>exact id
 |cons s _ ih=>exact fun hI=>ih (s.iv hI)
def GU(L:List RP):Nat:=(L.map fun p=>fU p.1).sum
def wt:List RP->Nat
 |[]=>0
 |_::L=>wt L+GU L
theorem uA.GU {n:Nat}{L L':List RP}(h:uA n L L'):aW n L->DL.GU L'=DL.GU L/\wt L'<wt L:=by
 induction h with
 | @here p q B j hj h1 h2=>
  intro hI
  have ip:=hI p (by simp)
  have iq:=hI q (by simp)
  have e1:fU (nv p j).1=fU p.1+1:=(zp ip hj).1 h1
  have e2:fU (qB q j).1+1=fU q.1:=by
   rw[wF (dY iq hj),wF iq]
   exact(zp iq.symm hj).2 h2
  unfold DL.GU wt wt DL.GU
  simp -implicitDefEqProofs only [map_cons,sum_cons]
  omega
 | @next p L L' _ ih=>
  intro hI
  obtain⟨a,b⟩:=ih fun y hy=>hI y (by simp[hy])
  unfold wt
  rw[a]
  refine⟨?_,by omega⟩
  unfold DL.GU at a⊢
  simp -implicitDefEqProofs only [map_cons,sum_cons]
  omega
theorem M6(q:RP)(i j:Nat):nv (qB q j) i=qB (nv q i) j:=by
 unfold nv qB qz
 rw[CH,CH]
theorem uA.side {n:Nat}{p q:RP}{B L:List RP}{j:Nat}(hj:j+1<n)(h1:aa p.1 j<aa p.1 (j+1))(h2:aa q.2 (j+1)<aa q.2 j)(iq:Iv n q.1 q.2)(s:uA n (q::B) L):
  ∃M,j6 n (nv p j::qB q j::B) M/\j6 n (p::L) M:=by
 cases s with
 | @here _ r B' i hi g1 g2=>
  refine⟨nv p j::nv (qB q j) i::qB r i::B',.cons (.next (.here hi ?_ g2)) (.nil _),?_⟩
  ·show aa (qz q.1 j) i<aa (qz q.1 j) (i+1)
   rw[bg (by rw[iq.lr];omega),bg (by rw[iq.lr];exact hi)]
   refine zE g1 fun⟨a,b⟩=>?_
   have e1:=(iq.rs i (by omega)).2.2
   have e2:=(iq.rs (i+1) hi).2.2
   rw[a,toNat_natCast]at e1
   rw[b,show((j:Int)+1).toNat=j+1 by omega]at e2
   omega
  ·rw[M6]
   refine .cons (.here hj h1 ?_) (.nil _)
   show aa (qz q.2 i) (j+1)<aa (qz q.2 i) j
   rw[bg (by rw[iq.ls];exact hj),bg (by rw[iq.ls];omega)]
   refine zE h2 fun⟨a,b⟩=>?_
   have e1:=(iq.sr (j+1) hj).2.2
   have e2:=(iq.sr j (by omega)).2.2
   rw[a,toNat_natCast]at e1
   rw[b,show((i:Int)+1).toNat=i+1 by omega]at e2
   omega
 | @next _ _ B2 s=>exact⟨nv p j::qB q j::B2,.cons (.next (.next s)) (.nil _),.cons (.here hj h1 h2) (.nil _)⟩
theorem uA.join {n:Nat}(hn:n<=7){L L1:List RP}(h:uA n L L1):∀{L2:List RP},aW n L->uA n L L2->∃M,j6 n L1 M/\j6 n L2 M:=by
 induction h with
 | @here p q B j hj h1 h2=>
  intro L2 hI s
  have ip:=hI p (by simp)
  have iq:=hI q (by simp)
  cases s with
  | @here _ _ _ i hi g1 g2=>
   have r1:=qE (n:=n) 50 _ _ (bQ ip hj) (dY iq hj)
   have r2:=qE (n:=n) 50 _ _ (bQ ip hi) (dY iq hi)
   obtain⟨a,b⟩:=Rc.one ip iq (.step hj h1 h2 r1) (vv hn 50 _ _ (bQ ip hj) (dY iq hj) (by omega)) (.step hi g1 g2 r2) (vv hn 50 _ _ (bQ ip hi) (dY iq hi) (by omega))
   have s2:=r2.Ur B
   rw[a,b]at s2
   exact⟨_,r1.Ur B,s2⟩
  |next s=>exact uA.side hj h1 h2 iq s
 | @next p L L1 s1 ih=>
  intro L2 hI s
  cases s with
  | @here _ q B j hj h1 h2=>
   obtain⟨M,a,b⟩:=uA.side (p:=p) hj h1 h2 (hI q (by simp)) s1
   exact⟨M,b,a⟩
  |next s=>
   obtain⟨M,a,b⟩:=ih (fun y hy=>hI y (by simp[hy])) s
   exact⟨p::M,a.next p,b.next p⟩
def Nf(n:Nat)(L:List RP):Prop:=∀L',¬uA n L L'
theorem W0{n:Nat}:∀(m:Nat)(L:List RP),wt L<=m->aW n L->∃N,j6 n L N/\Nf n N:=fun m=>by
 induction m with
 |zero=>exact fun L h hI=>⟨L,.nil _,fun L' s=>by have:=(s.GU hI).2;omega⟩
 |succ m ih=>
  intro L h hI
  rcases Classical.em (∃L',uA n L L')with⟨L',s⟩|hs
  ·obtain⟨N,a,b⟩:=ih L' (by have:=(s.GU hI).2;omega) (s.iv hI)
   exact⟨N,.cons s a,b⟩
  ·exact⟨L,.nil _,fun L' s=>hs ⟨L',s⟩⟩
theorem J3{n:Nat}(hn:n<=7):∀(m:Nat)(L:List RP),wt L<=m->aW n L->∀{N1 N2:List RP},j6 n L N1->Nf n N1->j6 n L N2->Nf n N2->N1=N2:=fun m=>by
 induction m with
 |zero=>
  intro L h hI N1 N2 a _ b _
  have z:∀{N},j6 n L N->N=L:=fun{N} s=>by
   cases s with
   |nil=>rfl
   |cons s _=>have:=(s.GU hI).2;omega
  rw[z a,z b]
 |succ m ih=>
  intro L h hI N1 N2 a n1 b n2
  cases a with
  |nil=>
   cases b with
   |nil=>rfl
   |cons s _=>exact absurd s (n1 _)
  | @cons _ L1 _ s1 a=>
   cases b with
   |nil=>exact absurd s1 (n2 _)
   | @cons _ L2 _ s2 b=>
    obtain⟨M,u,v⟩:=s1.join hn hI s2
    have w1:=(s1.GU hI).2
    have w2:=(s2.GU hI).2
    obtain⟨N,x,y⟩:=W0 (wt M) M (Nat.le_refl _) (u.iv (s1.iv hI))
    rw[ih L1 (by omega) (s1.iv hI) a n1 (u.trans x) y,ih L2 (by omega) (s2.iv hI) b n2 (v.trans x) y]
theorem En{n:Nat}:∀(ps:List RP)(c:RP),aW n ps->Iv n c.1 c.2->j6 n (c::ps).reverse (uK ps c).reverse
 |[],c,_,_=>.nil _
 |p::ps,c,hI,ic=>by
  have ip:=hI p (by simp)
  unfold uK
  split
  ·exact .nil _
  ·obtain⟨i1,_⟩:=hU.wH (n:=n) 50 ip ic
   have r:=(qE (n:=n) 50 p c ip ic).Ur []
   have h:=En ps (cJ 50 p c).1 (fun y hy=>hI y (by simp[hy])) i1
   simp -implicitDefEqProofs only [reverse_cons,List.append_assoc]at h⊢
   refine(j6.app ps.reverse r).trans ?_
   have:=h.M5 [(cJ 50 p c).2]
   simp -implicitDefEqProofs only [List.append_assoc]at this
   exact this
abbrev Zr(n:Nat):RP:=(upTo n,upTo n)
theorem M7{n:Nat}(hn:n<=7){c:RP}(ic:Iv n c.1 c.2):cJ 50 (Zr n) c=(c,Zr n):=by
 have iz:Iv n (Zr n).1 (Zr n).2:=cC n
 have s:=fV hn iz ic (cC n)
 obtain⟨y,o⟩:=s.ex
 have ct:∀t,t<n->(aa (upTo n) t).toNat=t:=fun t ht=>by rw[ao ht];exact toNat_natCast t
 have cz:∀t:Int,0<=t->t<n->aa (upTo n) t.toNat=t:=fun t h0 ht=>by rw[ao (by omega)];omega
 have e2:(cJ 50 (Zr n) c).2=Zr n:=vx s.ic (cC n) fun⟨a,ha,hd⟩=>by
  have h1:=(cR s.ip s.ic).mp s.fr a ha hd
  have h2:=o.aq a (a+1) (by omega) ha hd
  have b1:=o.iy.rs a (by omega)
  have b2:=o.iy.rs (a+1) ha
  rw[o.pl a (by omega),o.pl (a+1) ha]at h1
  dsimp only at h1
  rw[cz _ b1.1 b1.2.1,cz _ b2.1 b2.2.1]at h1
  omega
 have e1:(cJ 50 (Zr n) c).1=c:=by
  have h:(cJ 50 (Zr n) c).1.2=c.2:=aR (by rw[s.ip.ls,ic.ls]) fun t ht=>by
   rw[s.ip.ls]at ht
   have b1:=o.iy.sr t ht
   rw[o.pp t ht,o.pq t ht,e2]
   dsimp only
   rw[ct t ht,cz _ b1.1 b1.2.1]
  refine jz s.ip ic (Iv.uniq (n:=n) (s:=c.2) ?_ ic)
  rw[<-h]
  exact s.ip
 exact Prod.ext e1 e2
theorem CI{n:Nat}(hn:n<=7):∀(L:List RP),aW n L->j6 n (Zr n::L) (L++[Zr n])
 |[],_=>.nil _
 |c::L,hI=>by
  have ic:=hI c (by simp)
  have r:=(qE (n:=n) 50 (Zr n) c (cC n) ic).Ur L
  rw[M7 hn ic]at r
  exact r.trans ((CI hn L fun y hy=>hI y (by simp[hy])).next c)
theorem uA.at_ {n:Nat}{L L':List RP}(h:uA n L L'):∃A p q B j,L=A++p::q::B/\j+1<n/\aa p.1 j<aa p.1 (j+1)/\aa q.2 (j+1)<aa q.2 j:=by
 induction h with
 | @here p q B j hj h1 h2=>exact⟨[],p,q,B,j,rfl,hj,h1,h2⟩
 | @next p _ _ _ ih=>
  obtain⟨A,x,q,B,j,e,r⟩:=ih
  exact⟨p::A,x,q,B,j,by rw[e];rfl,r⟩
theorem PF{n:Nat}{L:List RP}(h:ux L.reverse)(hI:aW n L):Nf n L:=fun L' s=>by
 obtain⟨A,p,q,B,j,e,hj,h1,h2⟩:=s.at_
 have hf:=h.at_ (A:=B.reverse) (B:=A.reverse) (p:=p) (q:=q) (by rw[e];simp)
 have:=(cR (hI p (by rw[e];simp)) (hI q (by rw[e];simp))).mp hf j hj h2
 omega
theorem M8{n:Nat}{p:RP}(ip:Iv n p.1 p.2):km p (Zr n)=[]:=(cR ip (cC n)).mpr fun j hj h=>by
 dsimp only at h
 rw[ao hj,ao (by omega)]at h
 omega
theorem CJ{n:Nat}:∀(k:Nat){R:List RP},aW n R->ux R->ux (replicate k (Zr n)++R)
 |0,R,_,h=>h
 |k+1,R,hI,h=>by
  have ih:=CJ k hI h
  rw[replicate_succ,cons_append]
  cases e:replicate k (Zr n)++R with
  |nil=>trivial
  |cons p L=>
   rw[e]at ih
   refine⟨M8 (n:=n) ?_,ih⟩
   have:p∈replicate k (Zr n)++R:=by rw[e];simp
   rcases mem_append.mp this with h|h
   ·rw[(mem_replicate.mp h).2];exact cC n
   ·exact hI p h
def pY(n:Nat)(L:List RP):List RP:=L.foldl (eO n) []
theorem Ba{n:Nat}(hn:n<=7):∀(L R:List RP),aW n L->oG n R->∃k,j6 n (R++L) (L.foldl (eO n) R++replicate k (Zr n))/\oG n (L.foldl (eO n) R)
 |[],R,_,h=>⟨0,by simp -implicitDefEqProofs only [append_nil,List.foldl_nil,replicate_zero];exact .nil _,h⟩
 |c::L,R,hI,h=>by
  have ic:=hI c (by simp)
  have La:aW n L:=fun y hy=>hI y (by simp[hy])
  obtain⟨k,s,g⟩:=Ba hn L (eO n R c) La (Cr hn (cC n) h ic)
  have s1:=En R.reverse c (fun y hy=>h.iv y (by simpa using hy)) ic
  rw[reverse_cons,reverse_reverse]at s1
  have s2:j6 n (R++c::L) (rD R c++L):=by
   have:=s1.M5 L
   simp -implicitDefEqProofs only [List.append_assoc,List.singleton_append]at this
   exact this
  rw[foldl_cons]
  by_cases hd:(rD R c).getLast?=some (upTo n,upTo n)
  ·have e:eO n R c=(rD R c).dropLast:=if_pos hd
   have e2:rD R c=eO n R c++[Zr n]:=by
    rw[e]
    obtain⟨l,hl⟩:=List.getLast?_eq_some_iff.mp hd
    rw[hl,List.dropLast_concat]
   refine⟨k+1,?_,g⟩
   rw[e2,List.append_assoc,List.singleton_append]at s2
   refine s2.trans ((j6.app _ (CI hn L La)).trans ?_)
   have:=s.M5 [Zr n]
   rw[List.append_assoc,List.append_assoc]at this
   rw[List.replicate_succ']
   exact this
  ·have e:eO n R c=rD R c:=if_neg hd
   refine⟨k,?_,g⟩
   rw[<-e]at s2
   exact s2.trans s
theorem mU{n:Nat}(hn:n<=7){L:List RP}(hI:aW n L):∃k,j6 n L (pY n L++replicate k (Zr n))/\oG n (pY n L):=
 Ba hn L [] hI ⟨(fun x hx=>nomatch hx),trivial,(fun x hx=>nomatch hx)⟩
theorem strip{n:Nat}{R:List RP}(h:oG n R)(k:Nat):(R++replicate k (Zr n)).filter (fun x=>decide (x≠Zr n))=R:=by
 rw[List.filter_append,List.filter_eq_self.mpr fun x hx=>decide_eq_true (Jz (h.ns x hx)),List.filter_eq_nil_iff.mpr fun x hx=>by rw[(mem_replicate.mp hx).2];simp,append_nil]
theorem Tj{n:Nat}(hn:n<=7){L L':List RP}(hI:aW n L)(s:j6 n L L'):pY n L=pY n L':=by
 obtain⟨k,s1,g1⟩:=mU hn hI
 obtain⟨k',s2,g2⟩:=mU hn (s.iv hI)
 have nf:∀{R:List RP}(j:Nat),oG n R->Nf n (R++replicate j (Zr n)):=fun{R} j g=>PF (by
  rw[reverse_append,List.reverse_replicate]
  exact CJ j (fun y hy=>g.iv y (by simpa using hy)) g.lw) fun x hx=>by
   rcases mem_append.mp hx with h|h
   ·exact g.iv x h
   ·rw[(mem_replicate.mp h).2];exact cC n
 have e:=J3 hn _ L (Nat.le_refl _) hI s1 (nf k g1) (s.trans s2) (nf k' g2)
 rw[<-strip g1 k,e,strip g2 k']
theorem ux.pre:∀{A B:List RP},ux (A++B)->ux A
 |[],_,_=>trivial
 |[_],_,_=>trivial
 |_::q::A,B,h=>⟨h.1,ux.pre (A:=q::A) (B:=B) h.2⟩
theorem zF{l:List Int}{p:Nat}(h:p<l.length):aa l.reverse p=aa l (l.length-1-p):=by
 unfold aa
 rw[getElem?_reverse h]
theorem CK{n:Nat}(hn:n<=7){L R:List RP}{k:Nat}(hI:aW n L)(g:oG n R)(s:j6 n L (R++replicate k (Zr n))):pY n L=R:=by
 obtain⟨j,s1,g1⟩:=mU hn hI
 have nf:∀{R:List RP}(j:Nat),oG n R->Nf n (R++replicate j (Zr n)):=fun{R} j g=>PF (by
  rw[reverse_append,List.reverse_replicate]
  exact CJ j (fun y hy=>g.iv y (by simpa using hy)) g.lw) fun x hx=>by
   rcases mem_append.mp hx with h|h
   ·exact g.iv x h
   ·rw[(mem_replicate.mp h).2];exact cC n
 have e:=J3 hn _ L (Nat.le_refl _) hI s1 (nf j g1) s (nf k g)
 rw[<-strip g1 j,e,strip g k]
theorem aW.app {n:Nat}{A B:List RP}(a:aW n A)(b:aW n B):aW n (A++B):=fun x hx=>(mem_append.mp hx).elim (a x) (b x)
theorem aW.one {n:Nat}{p:RP}(h:Iv n p.1 p.2):aW n [p]:=fun x hx=>by rw[mem_singleton.mp hx];exact h
theorem aW.cons {n:Nat}{p:RP}{L:List RP}(h:Iv n p.1 p.2)(a:aW n L):aW n (p::L):=fun x hx=>by
 rcases mem_cons.mp hx with rfl|hx
 ·exact h
 ·exact a x hx
theorem aW.rep {n:Nat}{p:RP}(h:Iv n p.1 p.2)(k:Nat):aW n (replicate k p):=fun x hx=>by rw[(mem_replicate.mp hx).2];exact h
theorem Eo{n:Nat}(hn:n<=7){A B:List RP}(hA:aW n A)(hB:aW n B):pY n (A++Zr n::B)=pY n (A++B):=by
 obtain⟨k,s,g⟩:=mU hn (hA.app hB)
 refine CK (k:=k+1) hn (hA.app (.cons (cC n) hB)) g ?_
 refine(j6.app A (CI hn B hB)).trans ?_
 have:=s.M5 [Zr n]
 rw[List.append_assoc,List.append_assoc]at this
 rw[List.replicate_succ']
 exact this
theorem Bb{n:Nat}(hn:n<=7){A B:List RP}(hA:aW n A)(hB:aW n B):∀k,pY n (A++(replicate k (Zr n)++B))=pY n (A++B)
 |0=>rfl
 |k+1=>by
  rw[replicate_succ,cons_append,Eo hn hA (aW.app (.rep (cC n) k) hB),Bb hn hA hB k]
theorem oG.tail {n:Nat}{p:RP}{R:List RP}(h:oG n (p::R)):oG n R:=⟨fun x hx=>h.iv x (by simp[hx]),by
 have:=h.lw
 rw[reverse_cons]at this
 exact this.pre,fun x hx=>h.ns x (by simp[hx])⟩
theorem oG.drop {n:Nat}:∀(k:Nat){R:List RP},oG n R->oG n (R.drop k)
 |0,_,h=>h
 |_+1,[],h=>h
 |k+1,_::_,h=>oG.drop k h.tail
theorem dE{n t:Nat}(h:t<n):aa (upTo n).reverse t=(n:Int)-1-t:=by
 rw[zF (by rw[ak];exact h),ak,ao (by omega)]
 omega
theorem oW(n:Nat):Iv n (eJ n).1 (eJ n).2:=by
 have h:∀p,p<n->0<=aa (upTo n).reverse p/\aa (upTo n).reverse p<n/\aa (upTo n).reverse (aa (upTo n).reverse p).toNat=p:=fun p hp=>by
  rw[dE hp,dE (by omega)]
  omega
 have l:(upTo n).reverse.length=n:=by rw[length_reverse,ak]
 exact⟨l,l,h,h⟩
theorem Ka{n:Nat}{q:RP}(iq:Iv n q.1 q.2):km (eJ n) q=[]:=(cR (oW n) iq).mpr fun j hj _=>by
 show aa (upTo n).reverse (j+1)<aa (upTo n).reverse j
 rw[dE hj,dE (by omega)]
 omega
theorem Kb{n:Nat}(h2:2<=n):Lb n (eJ n):=⟨0,by omega,by
 show aa (upTo n).reverse 1<aa (upTo n).reverse 0
 rw[dE (by omega),dE (by omega)]
 omega⟩
theorem Ep{p:RP}:∀{L:List RP},ux L->(∀q A,L=A++[q]->km p q=[])->ux (L++[p])
 |[],_,_=>trivial
 |[q],_,h=>⟨h q [] rfl,trivial⟩
 |q::r::L,hl,h=>⟨hl.1,Ep (L:=r::L) hl.2 fun x A e=>h x (q::A) (by rw[e];rfl)⟩
theorem oG.half {n:Nat}(h2:2<=n){R:List RP}(h:oG n R):oG n (eJ n::R):=⟨.cons (oW n) h.iv,by
 rw[reverse_cons]
 refine Ep h.lw fun q A e=>Ka (h.iv q ?_)
 have:q∈R.reverse:=by rw[e];simp
 simpa using this,fun x hx=>by
  rcases mem_cons.mp hx with rfl|hx
  ·exact Kb h2
  ·exact h.ns x hx⟩
theorem Kc{n:Nat}(hn:n<=7)(h2:2<=n){L:List RP}(hI:aW n L):pY n (eJ n::L)=eJ n::pY n L:=by
 obtain⟨k,s,g⟩:=mU hn hI
 exact CK (k:=k) hn (.cons (oW n) hI) (g.half h2) (s.next _)
def Vl(n:Nat)(h:Int)(L:List RP):Int×List RP:=(h+dM n (pY n L),(pY n L).drop (dM n (pY n L)))
theorem Gg{n:Nat}(C:List RP):dM n (eJ n::C)=dM n C+1:=by
 unfold dM
 rw[List.takeWhile_cons_of_pos (by simp),length_cons]
theorem Er{n:Nat}(hn:n<=7)(h2:2<=n)(h:Int){L:List RP}(hI:aW n L):Vl n h (eJ n::L)=Vl n (h+1) L:=by
 unfold Vl
 rw[Kc hn h2 hI,Gg,List.drop_succ_cons]
 exact Prod.ext (by show h+((dM n (pY n L)+1:Nat):Int)=h+1+(dM n (pY n L):Nat);omega) rfl
theorem tW{n:Nat}(hn:n<=7)(h2:2<=n){L:List RP}(hI:aW n L):∀(m:Nat)(h:Int),Vl n h (replicate m (eJ n)++L)=Vl n (h+m) L
 |0,h=>by rw[replicate_zero,nil_append,Int.natCast_zero,Int.add_zero]
 |m+1,h=>by
  rw[replicate_succ,cons_append,Er hn h2 h (aW.app (.rep (oW n) m) hI),tW hn h2 hI m (h+1),show h+1+(m:Int)=h+((m+1:Nat):Int)by omega]
theorem zG{n:Nat}(hn:n<=7)(h:Int){L L':List RP}(hI:aW n L)(s:j6 n L L'):Vl n h L=Vl n h L':=by
 unfold Vl
 rw[Tj hn hI s]
theorem CL{n:Nat}(hn:n<=7)(h:Int){A B:List RP}(hA:aW n A)(hB:aW n B):Vl n h (A++Zr n::B)=Vl n h (A++B):=by
 unfold Vl
 rw[Eo hn hA hB]
theorem Es{n:Nat}(hn:n<=7)(h:Int){A B:List RP}(hA:aW n A)(hB:aW n B)(k:Nat):Vl n h (A++(replicate k (Zr n)++B))=Vl n h (A++B):=by
 unfold Vl
 rw[Bb hn hA hB]
theorem PH{n:Nat}(hn:n<=7)(h:Int){L:List RP}(hI:aW n L):∃m k:Nat,(Vl n h L).1=h+m/\aW n (Vl n h L).2/\j6 n L (replicate m (eJ n)++((Vl n h L).2++replicate k (Zr n))):=by
 obtain⟨k,s,g⟩:=mU hn hI
 refine⟨dM n (pY n L),k,rfl,(oG.drop _ g).iv,?_⟩
 have e:=wJ (n:=n) (pY n L)
 rw[<-List.append_assoc]
 show j6 n L (replicate (dM n (pY n L)) (eJ n)++(pY n L).drop (dM n (pY n L))++_)
 rw[<-e]
 exact s
theorem Kd{n:Nat}(hn:n<=7)(h2:2<=n)(h:Int){L B:List RP}(hI:aW n L)(hB:aW n B):Vl n h (L++B)=Vl n (Vl n h L).1 ((Vl n h L).2++B):=by
 obtain⟨m,k,e,hT,s⟩:=PH hn h hI
 rw[e,zG hn h (hI.app hB) (s.M5 B),List.append_assoc,List.append_assoc,tW hn h2 (aW.app hT (aW.app (.rep (cC n) k) hB))]
 exact Es hn _ hT hB k
theorem Bc{n:Nat}{l:List Int}{p:Nat}(h:p<l.length):aa (fl n l) p=(n:Int)-1-aa l p:=by
 have:=cP h
 unfold fl
 conv=>lhs;unfold aa
 rw[getElem?_map,this]
 rfl
def kq(n:Nat)(p:RP):RP:=(fl n p.1.reverse,fl n p.2.reverse)
theorem bK{n:Nat}{l:List Int}(hl:l.length=n){t:Nat}(h:t<n):aa (fl n l.reverse) t=(n:Int)-1-aa l (n-1-t):=by
 rw[Bc (by rw[length_reverse,hl];exact h),zF (by rw[hl];exact h),hl]
theorem b8{n:Nat}{l:List Int}(hl:l.length=n):(fl n l.reverse).length=n:=by unfold fl;rw[length_map,length_reverse,hl]
theorem tX{n:Nat}{p:RP}(h:Iv n p.1 p.2):Iv n (kq n p).1 (kq n p).2:=by
 have g:∀{r s:List Int},Iv n r s->∀t,t<n->0<=aa (fl n r.reverse) t/\aa (fl n r.reverse) t<n/\aa (fl n s.reverse) (aa (fl n r.reverse) t).toNat=t:=fun{r s} h t ht=>by
  obtain⟨a,b,c⟩:=h.rs (n-1-t) (by omega)
  rw[bK h.lr ht]
  refine⟨by omega,by omega,?_⟩
  rw[bK h.ls (by omega),show n-1-((n:Int)-1-aa r (n-1-t)).toNat=(aa r (n-1-t)).toNat by omega,c]
  omega
 exact⟨b8 h.lr,b8 h.ls,g h,g h.symm⟩
theorem Et{n:Nat}{p:RP}(h:Iv n p.1 p.2):kq n (kq n p)=p:=by
 have g:∀{l:List Int},l.length=n->fl n (fl n l.reverse).reverse=l:=fun{l} hl=>aR (by rw[b8 (b8 hl),hl]) fun t ht=>by
  rw[b8 (b8 hl)]at ht
  rw[bK (b8 hl) ht,bK hl (by omega),show n-1-(n-1-t)=t by omega]
  omega
 exact Prod.ext (g h.lr) (g h.ls)
theorem Eu{n:Nat}{l:List Int}(hl:l.length=n){j:Nat}(hj:j+1<n):fl n (cK l j).reverse=cK (fl n l.reverse) (n-2-j):=by
 have h1:(cK l j).length=n:=by rw[bE,hl]
 refine aR (by rw[b8 h1,bE,b8 hl]) fun t ht=>?_
 rw[b8 h1]at ht
 rw[bK h1 ht,bx _ _ (by rw[hl];exact hj),bx _ _ (by rw[b8 hl];omega),bK hl (by omega),bK hl (by omega),bK hl ht]
 by_cases c:t=n-2-j
 ·rw[if_pos c,if_neg (by omega),if_pos (by omega),show n-1-(n-2-j+1)=j by omega]
 ·rw[if_neg c]
  by_cases d:t=n-2-j+1
  ·rw[if_pos d,if_pos (by omega),show n-1-(n-2-j)=j+1 by omega]
  ·rw[if_neg d,if_neg (by omega),if_neg (by omega)]
theorem Ew{n:Nat}{l:List Int}(hl:l.length=n)(hb:∀t,t<n->0<=aa l t/\aa l t<n){j:Nat}(hj:j+1<n):fl n (qz l j).reverse=qz (fl n l.reverse) (n-2-j):=by
 have h1:(qz l j).length=n:=by rw[vj,hl]
 refine aR (by rw[b8 h1,vj,b8 hl]) fun t ht=>?_
 rw[b8 h1]at ht
 have:=hb (n-1-t) (by omega)
 rw[bK h1 ht,bg (by rw[hl];omega),bg (by rw[b8 hl];exact ht),bK hl ht]
 unfold sg
 repeat' split
 all_goals omega
theorem M9{n:Nat}{p:RP}(h:Iv n p.1 p.2){j:Nat}(hj:j+1<n):kq n (nv p j)=nv (kq n p) (n-2-j):=
 Prod.ext (Eu h.lr hj) (Ew h.ls (fun t ht=>⟨(h.sr t ht).1,(h.sr t ht).2.1⟩) hj)
theorem Na{n:Nat}{p:RP}(h:Iv n p.1 p.2){j:Nat}(hj:j+1<n):kq n (qB p j)=qB (kq n p) (n-2-j):=
 Prod.ext (Ew h.lr (fun t ht=>⟨(h.rs t ht).1,(h.rs t ht).2.1⟩) hj) (Eu h.ls hj)
theorem aW.kq {n:Nat}{L:List RP}(h:aW n L):aW n (L.map (DL.kq n)):=fun x hx=>by
 obtain⟨y,hy,rfl⟩:=mem_map.mp hx
 exact tX (h y hy)
theorem uA.kq {n:Nat}{L L':List RP}(h:uA n L L'):aW n L->uA n (L.map (DL.kq n)) (L'.map (DL.kq n)):=by
 induction h with
 | @here p q B j hj h1 h2=>
  intro hI
  have ip:=hI p (by simp)
  have iq:=hI q (by simp)
  simp -implicitDefEqProofs only [map_cons]
  rw[M9 ip hj,Na iq hj]
  refine .here (by omega) ?_ ?_
  ·show aa (fl n p.1.reverse) (n-2-j)<aa (fl n p.1.reverse) (n-2-j+1)
   rw[bK ip.lr (by omega),bK ip.lr (by omega),show n-1-(n-2-j)=j+1 by omega,show n-1-(n-2-j+1)=j by omega]
   omega
  ·show aa (fl n q.2.reverse) (n-2-j+1)<aa (fl n q.2.reverse) (n-2-j)
   rw[bK iq.ls (by omega),bK iq.ls (by omega),show n-1-(n-2-j)=j+1 by omega,show n-1-(n-2-j+1)=j by omega]
   omega
 |next _ ih=>
  intro hI
  exact .next (ih fun y hy=>hI y (by simp[hy]))
theorem j6.kq {n:Nat}{L L':List RP}(h:j6 n L L'):aW n L->j6 n (L.map (DL.kq n)) (L'.map (DL.kq n)):=by
 induction h with
 |nil=>exact fun _=>.nil _
 |cons s _ ih=>exact fun hI=>.cons (s.kq hI) (ih (s.iv hI))
theorem Ke(n:Nat):kq n (eJ n)=eJ n:=by
 have:fl n (upTo n).reverse.reverse=(upTo n).reverse:=aR (by rw[b8 (by rw[length_reverse,ak]),length_reverse,ak]) fun t ht=>by
  rw[b8 (by rw[length_reverse,ak])]at ht
  rw[bK (by rw[length_reverse,ak]) ht,dE (by omega),dE ht]
  omega
 exact Prod.ext this this
theorem Nb(n:Nat):kq n (Zr n)=Zr n:=by
 have:fl n (upTo n).reverse=upTo n:=aR (by rw[b8 (ak n),ak]) fun t ht=>by
  rw[b8 (ak n)]at ht
  rw[bK (ak n) ht,ao (by omega),ao ht]
  omega
 exact Prod.ext this this
theorem Kf{n:Nat}(hn:n<=7)(h2:2<=n)(h:Int){L B:List RP}(hI:aW n L)(hB:aW n B)(d:Int):Vl n (h+d) (L.map (kq n)++B)=Vl n ((Vl n h L).1+d) ((Vl n h L).2.map (kq n)++B):=by
 obtain⟨m,k,e,hT,s⟩:=PH hn h hI
 have s2:=s.kq hI
 simp -implicitDefEqProofs only [map_append,List.map_replicate,Ke,Nb]at s2
 rw[e,zG hn _ (hI.kq.app hB) (s2.M5 B),List.append_assoc,List.append_assoc,tW hn h2 (aW.app hT.kq (aW.app (.rep (cC n) k) hB)),show h+d+(m:Int)=h+m+d by omega]
 exact Es hn _ hT.kq hB k
theorem CM{n:Nat}{p q:RP}(h:Iv n p.1 p.2)(g:Iv n q.1 q.2)(e:∀t,t<n->aa p.2 t=aa q.2 t):p=q:=by
 have e2:p.2=q.2:=aR (by rw[h.ls,g.ls]) fun t ht=>e t (by rw[h.ls]at ht;exact ht)
 refine jz h g (Iv.uniq (n:=n) (s:=q.2) ?_ g)
 rw[<-e2]
 exact h
theorem uL.all {n:Nat}{p q p' c' y:RP}(o:uL n p q p' c' y)(ip:Iv n p.1 p.2){t:Nat}(ht:t<n):aa c'.2 (aa p'.2 t).toNat=aa q.2 (aa p.2 t).toNat:=by
 have:=ip.sr t ht
 rw[o.pp t ht,o.pq _ (by omega)]
theorem Bd{n:Nat}(hn:n<=7){p q:RP}(ip:Iv n p.1 p.2)(iq:Iv n q.1 q.2)(hd:∀t,t<n->aa q.2 (aa p.2 t).toNat=(n:Int)-1-t):cJ 50 p q=(eJ n,Zr n):=by
 have s:=fV hn ip iq (cC n)
 obtain⟨y,o⟩:=s.ex
 have hp:(cJ 50 p q).1=eJ n:=jz s.ip (oW n) (tM s.ip fun j hj=>by
  obtain⟨a1,a2,a3⟩:=s.ip.rs j (by omega)
  obtain⟨b1,b2,b3⟩:=s.ip.rs (j+1) hj
  have e1:=o.all ip (t:=(aa (cJ 50 p q).1.1 j).toNat) (by omega)
  have e2:=o.all ip (t:=(aa (cJ 50 p q).1.1 (j+1)).toNat) (by omega)
  rw[a3,toNat_natCast,hd _ (by omega)]at e1
  rw[b3,toNat_natCast,hd _ (by omega)]at e2
  refine byContradiction fun hc=>?_
  have hne:aa (cJ 50 p q).1.1 j≠aa (cJ 50 p q).1.1 (j+1):=fun z=>by rw[z,b3]at a3;omega
  have:=(cR s.ip s.ic).mp s.fr j hj (by omega)
  omega)
 refine Prod.ext hp (CM s.ic (cC n) fun t ht=>?_)
 have e:=o.all ip (t:=n-1-t) (by omega)
 rw[hp,hd _ (by omega)]at e
 change aa (cJ 50 p q).2.2 (aa (upTo n).reverse (n-1-t)).toNat=_ at e
 rw[dE (by omega),show((n:Int)-1-((n-1-t:Nat):Int)).toNat=t by omega]at e
 show _=aa (upTo n) t
 rw[ao ht,e]
 omega
theorem Kg{n:Nat}(hn:n<=7){c:RP}(ic:Iv n c.1 c.2):cJ 50 c (eJ n)=(eJ n,kq n c):=by
 have s:=fV hn ic (oW n) (cC n)
 obtain⟨y,o⟩:=s.ex
 have hd:∀t,t<n->aa (cJ 50 c (eJ n)).2.2 (aa (cJ 50 c (eJ n)).1.2 t).toNat=(n:Int)-1-aa c.2 t:=fun t ht=>by
  have:=ic.sr t ht
  rw[o.all ic ht]
  show aa (upTo n).reverse _=_
  rw[dE (by omega)]
  omega
 have hp:(cJ 50 c (eJ n)).1=eJ n:=jz s.ip (oW n) (tM s.ip fun j hj=>by
  obtain⟨a1,a2,a3⟩:=s.ip.rs j (by omega)
  obtain⟨b1,b2,b3⟩:=s.ip.rs (j+1) hj
  have e1:=hd (aa (cJ 50 c (eJ n)).1.1 j).toNat (by omega)
  have e2:=hd (aa (cJ 50 c (eJ n)).1.1 (j+1)).toNat (by omega)
  rw[a3,toNat_natCast]at e1
  rw[b3,toNat_natCast]at e2
  refine byContradiction fun hc=>?_
  have hne:aa (cJ 50 c (eJ n)).1.1 j≠aa (cJ 50 c (eJ n)).1.1 (j+1):=fun z=>by rw[z,b3]at a3;omega
  have h3:¬aa (cJ 50 c (eJ n)).2.2 (j+1)<aa (cJ 50 c (eJ n)).2.2 j:=fun z=>by
   have:=(cR s.ip s.ic).mp s.fr j hj z
   omega
  generalize hs1:(aa (cJ 50 c (eJ n)).1.1 j).toNat=s1 at*
  generalize hs2:(aa (cJ 50 c (eJ n)).1.1 (j+1)).toNat=s2 at*
  obtain⟨u1,u2,u3⟩:=ic.sr s1 (by omega)
  obtain⟨v1,v2,v3⟩:=ic.sr s2 (by omega)
  have afA:aa c.2 s1≠aa c.2 s2:=fun z=>by rw[z,v3]at u3;omega
  have p1:=o.pp s1 (by omega)
  have p2:=o.pp s2 (by omega)
  rw[a3]at p1
  rw[b3]at p2
  have:=o.ap (aa c.2 s2).toNat (aa c.2 s1).toNat (by omega) (by omega) (by omega)
  rw[u3,v3]at this
  omega)
 refine Prod.ext hp (CM s.ic (tX ic) fun t ht=>?_)
 have e:=hd (n-1-t) (by omega)
 rw[hp]at e
 change aa (cJ 50 c (eJ n)).2.2 (aa (upTo n).reverse (n-1-t)).toNat=_ at e
 rw[dE (by omega),show((n:Int)-1-((n-1-t:Nat):Int)).toNat=t by omega]at e
 rw[e]
 exact(bK ic.ls ht).symm
theorem Ex{n:Nat}(hn:n<=7):∀(L:List RP),aW n L->j6 n (L++[eJ n]) (eJ n::L.map (kq n))
 |[],_=>.nil _
 |c::L,hI=>by
  have ic:=hI c (by simp)
  have r:=(qE (n:=n) 50 c (eJ n) ic (oW n)).Ur (L.map (kq n))
  rw[Kg hn ic]at r
  exact((Ex hn L fun y hy=>hI y (by simp[hy])).next c).trans r
def Li(n:Nat)(r:RP):RP:=(fl n r.2,r.1.reverse)
theorem PJ{n:Nat}{r:RP}(h:Iv n r.1 r.2){t:Nat}(ht:t<n):aa (Li n r).1 t=(n:Int)-1-aa r.2 t:=Bc (by rw[h.ls];exact ht)
theorem Ey{n:Nat}{r:RP}(h:Iv n r.1 r.2){t:Nat}(ht:t<n):aa (Li n r).2 t=aa r.1 (n-1-t):=by
 show aa r.1.reverse t=_
 rw[zF (by rw[h.lr];exact ht),h.lr]
theorem oX{n:Nat}{r:RP}(h:Iv n r.1 r.2):Iv n (Li n r).1 (Li n r).2:=by
 refine⟨by show(fl n r.2).length=n;unfold fl;rw[length_map,h.ls],by show r.1.reverse.length=n;rw[length_reverse,h.lr],fun t ht=>?_,fun t ht=>?_⟩
 ·obtain⟨a,b,c⟩:=h.sr t ht
  rw[PJ h ht]
  refine⟨by omega,by omega,?_⟩
  rw[Ey h (by omega),show n-1-((n:Int)-1-aa r.2 t).toNat=(aa r.2 t).toNat by omega,c]
 ·obtain⟨a,b,c⟩:=h.rs (n-1-t) (by omega)
  rw[Ey h ht]
  refine⟨a,b,?_⟩
  rw[PJ h (by omega),c]
  omega
theorem Kh{n:Nat}(hn:n<=7){r:RP}(h:Iv n r.1 r.2):cJ 50 (Li n r) r=(eJ n,Zr n):=Bd hn (oX h) h fun t ht=>by
 rw[Ey h ht,(h.rs (n-1-t) (by omega)).2.2]
 omega
theorem Kj{n:Nat}(hn:n<=7){r:RP}(h:Iv n r.1 r.2):cJ 50 (kq n r) (Li n r)=(eJ n,Zr n):=Bd hn (tX h) (oX h) fun t ht=>by
 have e:aa (kq n r).2 t=(n:Int)-1-aa r.2 (n-1-t):=bK h.ls ht
 obtain⟨a,b,c⟩:=h.sr (n-1-t) (by omega)
 rw[e,Ey h (by omega),show n-1-((n:Int)-1-aa r.2 (n-1-t)).toNat=(aa r.2 (n-1-t)).toNat by omega,c]
 omega
def Pa(n:Nat)(c:RP)(ω:Int×List RP):Int×List RP:=Vl n ω.1 (ω.2++[c])
def Ma(n:Nat)(r:RP)(ω:Int×List RP):Int×List RP:=Vl n (ω.1+ -1) (ω.2.map (kq n)++[Li n r])
structure Cv(n:Nat)(ω:Int×List RP):Prop where
 iv:aW n ω.2
 id:Vl n ω.1 ω.2=ω
theorem PK{n:Nat}(hn:n<=7)(h:Int){L:List RP}(hI:aW n L):Cv n (Vl n h L):=by
 obtain⟨k,s,g⟩:=mU hn hI
 have g2:=oG.drop (dM n (pY n L)) g
 have e:pY n (Vl n h L).2=(Vl n h L).2:=CK (k:=0) hn g2.iv g2 (by rw[replicate_zero,append_nil];exact .nil _)
 have c:dM n (Vl n h L).2=0:=by
  have hd:=AW (n:=n) (pY n L)
  show dM n ((pY n L).drop (dM n (pY n L)))=0
  cases e:(pY n L).drop (dM n (pY n L))with
  |nil=>rfl
  |cons p B=>
   unfold dM
   rw[List.takeWhile_cons_of_neg (by simpa using hd p B e)]
   rfl
 refine⟨g2.iv,?_⟩
 generalize Vl n h L=ω at e c
 show(ω.1+((dM n (pY n ω.2):Nat):Int),(pY n ω.2).drop (dM n (pY n ω.2)))=ω
 rw[e,c]
 exact Prod.ext (by show ω.1+((0:Nat):Int)=_;omega) rfl
section
variable{n:Nat}(hn:n<=7)(h2:2<=n)
include hn h2
theorem PL(h:Int){L:List RP}(hI:aW n L){c:RP}(ic:Iv n c.1 c.2):Vl n h (L++[c])=Pa n c (Vl n h L):=Kd hn h2 h hI (.one ic)
theorem W2(h:Int){L:List RP}(hI:aW n L){r:RP}(ir:Iv n r.1 r.2):Vl n (h+ -1) (L.map (kq n)++[Li n r])=Ma n r (Vl n h L):=Kf hn h2 h hI (.one (oX ir)) (-1)
theorem Be{ω:Int×List RP}(hc:Cv n ω){c:RP}(ic:Iv n c.1 c.2):Cv n (Pa n c ω):=PK hn _ (hc.iv.app (.one ic))
theorem xf{ω:Int×List RP}(hc:Cv n ω){r:RP}(ir:Iv n r.1 r.2):Cv n (Ma n r ω):=PK hn _ (hc.iv.kq.app (.one (oX ir)))
theorem Ez{ω:Int×List RP}(hc:Cv n ω){p q:RP}(ip:Iv n p.1 p.2)(iq:Iv n q.1 q.2)(e:cJ 50 p q=(eJ n,Zr n)):Vl n (ω.1+ -1) (ω.2.map (kq n)++[p,q])=ω:=by
 have r:=(qE (n:=n) 50 p q ip iq).Ur []
 rw[e]at r
 have s2:=(Ex hn (ω.2.map (kq n)) hc.iv.kq).M5 [Zr n]
 rw[List.append_assoc]at s2
 have hf:(ω.2.map (kq n)).map (kq n)=ω.2:=by
  rw[map_map]
  conv=>rhs;rw[<-map_id ω.2]
  exact map_congr_left fun x hx=>Et (hc.iv x hx)
 rw[hf]at s2
 rw[zG hn _ (hc.iv.kq.app (.cons ip (.one iq))) ((j6.app _ r).trans s2),cons_append,Er hn h2 _ (hc.iv.app (.one (cC n))),show ω.1+ -1+1=ω.1 by omega]
 have:=CL (A:=ω.2) (B:=[]) hn ω.1 hc.iv (fun x hx=>nomatch hx)
 rw[this,append_nil]
 exact hc.id
theorem xg{ω:Int×List RP}(hc:Cv n ω){r:RP}(ir:Iv n r.1 r.2):Ma n r (Pa n r ω)=ω:=by
 have e:Pa n r ω=Vl n ω.1 (ω.2++[r]):=rfl
 rw[e,<-W2 hn h2 ω.1 (hc.iv.app (.one ir)) ir,map_append,List.append_assoc]
 exact Ez hn h2 hc (tX ir) (oX ir) (Kj hn ir)
theorem yD{ω:Int×List RP}(hc:Cv n ω){r:RP}(ir:Iv n r.1 r.2):Pa n r (Ma n r ω)=ω:=by
 have e:Ma n r ω=Vl n (ω.1+ -1) (ω.2.map (kq n)++[Li n r]):=rfl
 rw[e,<-PL hn h2 _ (hc.iv.kq.app (.one (oX ir))) ir,List.append_assoc]
 exact Ez hn h2 hc (oX ir) ir (Kh hn ir)
end
def Xr(n a:Nat):RP:=nv (Zr n) a
theorem cW{n a:Nat}(h:a+1<n):Iv n (Xr n a).1 (Xr n a).2:=bQ (p:=Zr n) (cC n) h
theorem Tn{n a:Nat}(h:a+1<n):qB (Xr n a) a=Zr n:=by
 have iz:Iv n (Zr n).1 (Zr n).2:=cC n
 refine CM (dY (cW h) h) iz fun t ht=>?_
 show aa (cK (qz (upTo n) a) a) t=aa (upTo n) t
 rw[dm (by rw[vj,ak];exact h),bg (by rw[ak];exact wI h ht),ao (wI h ht),ao ht]
 unfold sw sg
 repeat' split
 all_goals omega
theorem W3{n a:Nat}(h:a+1<n):aa (Xr n a).2 (a+1)<aa (Xr n a).2 a:=by
 show aa (qz (upTo n) a) (a+1)<aa (qz (upTo n) a) a
 rw[bg (by rw[ak];exact h),bg (by rw[ak];omega),ao h,ao (by omega)]
 unfold sg
 repeat' split
 all_goals omega
theorem qF{n:Nat}(hn:n<=7)(h2:2<=n){ω:Int×List RP}(hc:Cv n ω){c:RP}(ic:Iv n c.1 c.2){a:Nat}(ha:a+1<n)(hu:aa c.1 a<aa c.1 (a+1)):Pa n (Xr n a) (Pa n c ω)=Pa n (nv c a) ω:=by
 have e:Pa n c ω=Vl n ω.1 (ω.2++[c]):=rfl
 rw[e,<-PL hn h2 ω.1 (hc.iv.app (.one ic)) (cW ha),List.append_assoc]
 have s:j6 n [c,Xr n a] [nv c a,Zr n]:=by
  have:=uA.here (B:=[]) ha hu (W3 ha)
  rw[Tn ha]at this
  exact .cons this (.nil _)
 rw[show[c]++[Xr n a]=[c,Xr n a]from rfl,zG hn ω.1 (hc.iv.app (.cons ic (.one (cW ha)))) (j6.app ω.2 s)]
 have:=CL (A:=ω.2++[nv c a]) (B:=[]) hn ω.1 (hc.iv.app (.one (bQ ic ha))) (fun x hx=>nomatch hx)
 rw[List.append_assoc,append_nil]at this
 exact this
theorem PN(n:Nat)(f:Nat->Nat):S n (fun i=>f (n-1-i))=S n f:=by
 induction n with
 |zero=>rfl
 |succ n ih=>
  rw[DR,jo,<-ih]
  rw[show n+1-1-0=n by omega,Nat.add_comm]
  congr 1
  exact fR fun i _=>by rw[show n+1-1-(i+1)=n-1-i by omega]
def T2(n:Nat):Nat:=S n fun q=>S n fun p=>if p<q then 1 else 0
theorem Kl{n:Nat}{r s:List Int}(h:Iv n r s):fU (fl n s)+fU s=T2 n:=by
 rw[yu,yu,mR,h.ls,<-AJ]
 unfold T2
 refine fR fun q hq=>?_
 rw[<-AJ]
 refine fR fun p hp=>?_
 by_cases hpq:p<q
 ·rw[if_pos hpq,if_pos hpq,if_pos hpq,rY (by rw[h.ls];exact hq),rY (by rw[h.ls];exact hp)]
  have hne:aa s p≠aa s q:=fun z=>by
   have:=h.GR hp hq z
   omega
  repeat' split
  all_goals omega
 ·rw[if_neg hpq,if_neg hpq,if_neg hpq]
theorem EA{n:Nat}{r s:List Int}(h:Iv n r s):fU s.reverse+fU s=T2 n:=by
 have e1:fU s.reverse=S n fun q=>S n fun p=>if p<q then(if aa s p<aa s q then 1 else 0)else 0:=by
  rw[yu,length_reverse,h.ls,Jh n n fun q p=>if p<q then(if aa s p<aa s q then 1 else 0)else 0,<-PN n fun p=>S n fun q=>if p<q then(if aa s p<aa s q then 1 else 0)else 0]
  refine fR fun q hq=>?_
  rw[<-PN n fun q_1=>if n-1-q<q_1 then(if aa s (n-1-q)<aa s q_1 then 1 else 0)else 0]
  refine fR fun p hp=>?_
  rw[fu (by rw[h.ls];exact hq),fu (by rw[h.ls];exact hp),h.ls]
  by_cases hpq:p<q
  ·have hq2:n-1-q<n-1-p:=by omega
   rw[if_pos hpq,if_pos hq2]
  ·have hq2:¬n-1-q<n-1-p:=by omega
   rw[if_neg hpq,if_neg hq2]
 rw[e1,yu,h.ls,<-AJ]
 unfold T2
 refine fR fun q hq=>?_
 rw[<-AJ]
 refine fR fun p hp=>?_
 by_cases hpq:p<q
 ·rw[if_pos hpq,if_pos hpq,if_pos hpq]
  have hne:aa s p≠aa s q:=fun z=>by
   have:=h.GR hp hq z
   omega
  repeat' split
  all_goals omega
 ·rw[if_neg hpq,if_neg hpq,if_neg hpq]
def Gi(k:Int):Int:=if 0<k then 1 else-1
def pM(w:List Int):Int:=(w.map Gi).sum
theorem vC(a b:List Int):pM (a++b)=pM a+pM b:=by unfold pM;rw[map_append,sum_append]
def kr(h:Int)(o:List Int):List Int:=if h%2=0 then o else o.reverse
theorem Bf(h:Int)(o:List Int):(kr h o).length=o.length:=by unfold kr;split<;>simp
theorem fA(o r:List Int):(cmp o r).length=r.length:=by unfold cmp;exact length_map _
theorem EB:∀(w o:List Int),(ko w o).length=o.length
 |[],o=>rfl
 |k::w,o=>by
  show(ko w (cK o _)).length=_
  rw[EB w,bE]
theorem To{n:Nat}{o:List Int}(h:o.length=n):cmp o (upTo n)=o:=by
 refine aR (by rw[fA,ak,h]) fun t ht=>?_
 rw[fA,ak]at ht
 rw[dB (by rw[ak];exact ht),ao ht,toNat_natCast]
theorem EC{n:Nat}{o:List Int}(h:o.length=n)(w:List Int):ko w o=cmp o (ko w (upTo n)):=by
 conv=>lhs;rw[<-To h]
 unfold cmp
 exact zD _ w _
theorem rZ(a b o:List Int):ko (a++b) o=ko b (ko a o):=foldl_append
theorem Tp{n:Nat}{o r s:List Int}(h:o.length=n)(i:Iv n r s):cmp o.reverse (fl n s)=cmp o s:=by
 refine aR (by rw[fA,fA,mR]) fun t ht=>?_
 rw[fA,mR,i.ls]at ht
 obtain⟨a1,a2,_⟩:=i.sr t ht
 rw[dB (by rw[mR,i.ls];exact ht),dB (by rw[i.ls];exact ht),rY (by rw[i.ls];exact ht),fu (by rw[h];omega),h]
 congr 1
 omega
theorem Km{n:Nat}{r s:List Int}(h:Iv n r s)(hr:Iv n r.reverse (vq r.reverse)):fU (fl n r.reverse)=fU r:=by
 have e1:=Kl hr.symm
 have e2:=EA h.symm
 omega
theorem Bg{n:Nat}{o r s:List Int}(h:o.length=n)(i:Iv n r s):cmp o.reverse (fl n r.reverse)=(cmp o r).reverse:=by
 refine aR (by rw[fA,mR,length_reverse,length_reverse,fA]) fun t ht=>?_
 rw[fA,mR,length_reverse,i.lr]at ht
 obtain⟨a1,a2,_⟩:=i.rs (n-1-t) (by omega)
 have e1:aa r.reverse t=aa r (n-1-t):=by rw[fu (by rw[i.lr];exact ht),i.lr]
 have e2:aa (cmp o r).reverse t=aa (cmp o r) (n-1-t):=by rw[fu (by rw[fA,i.lr];exact ht),fA,i.lr]
 rw[dB (by rw[mR,length_reverse,i.lr];exact ht),rY (by rw[length_reverse,i.lr];exact ht),e1,e2,fu (by rw[h];omega),h,dB (by rw[i.lr];omega)]
 congr 1
 omega
def jA(n:Nat)(h:Int)(r:List Int):List Int:=if h%2=0 then r else fl n r.reverse
theorem Gj{n:Nat}(h:Int){r:List Int}(hr:bB n r):bB n (jA n h r):=by
 unfold jA
 split
 ·exact hr
 ·exact JZ (Ek hr)
theorem Gk{n:Nat}(h:Int){r:List Int}(hr:bB n r):fU (jA n h r)=fU r:=by
 unfold jA
 split
 ·rfl
 ·exact Km (oF hr) (oF (Ek hr))
theorem Gm{n:Nat}(h g:Int){o r:List Int}(ho:o.length=n)(hr:bB n r):cmp (kr (g+h) o) (jA n h r)=kr h (cmp (kr g o) r):=by
 unfold jA kr
 by_cases c:h%2=0
 ·rw[if_pos c,if_pos c]
  by_cases d:g%2=0
  ·rw[if_pos d,if_pos (by omega)]
  ·rw[if_neg d,if_neg (by omega)]
 ·rw[if_neg c,if_neg c]
  by_cases d:g%2=0
  ·rw[if_pos d,if_neg (by omega),Bg ho (oF hr)]
  ·rw[if_neg d,if_pos (by omega)]
   have:=Bg (o:=o.reverse) (by rw[length_reverse];exact ho) (oF hr)
   rw[reverse_reverse]at this
   exact this
abbrev hS(qs:List (Int×List Int)):Int:=(qs.map (·.1)).sum
def dh(n:Nat):List (Int×List Int)->List (List Int)
 |[]=>[]
 |q::qs=>jA n (hS qs) q.2::dh n qs
def Kn(o:List Int)(qs:List (Int×List Int)):List Int:=qs.foldl (fun o q=>cmp (kr q.1 o) q.2) o
theorem tY(n:Nat):∀qs,(dh n qs).length=qs.length
 |[]=>rfl
 |q::qs=>by show(dh n qs).length+1=_;rw[tY n qs];rfl
theorem yE{n:Nat}:∀(qs:List (Int×List Int)),(∀q∈qs,bB n q.2)->∀r∈dh n qs,bB n r
 |[],_,r,hr=>nomatch hr
 |q::qs,h,r,hr=>by
  rcases mem_cons.mp hr with rfl|hr
  ·exact Gj _ (h q (by simp))
  ·exact yE qs (fun x hx=>h x (by simp[hx])) r hr
theorem yF{n:Nat}:∀(qs:List (Int×List Int))(o:List Int),(∀q∈qs,bB n q.2)->o.length=n->xX (kr (hS qs) o) (dh n qs)=Kn o qs
 |[],o,_,_=>by
  show kr 0 o=o
  rfl
 |q::qs,o,h,ho=>by
  have hq:=h q (by simp)
  have ih:=yF qs (cmp (kr q.1 o) q.2) (fun x hx=>h x (by simp[hx])) (by rw[fA,hq.len])
  show xX (cmp (kr (hS (q::qs)) o) (jA n (hS qs) q.2)) (dh n qs)=Kn (cmp (kr q.1 o) q.2) qs
  rw[<-ih,show hS (q::qs)=q.1+hS qs from rfl,Gm _ _ ho hq]
theorem yG{n:Nat}:∀(qs:List (Int×List Int)),(∀q∈qs,bB n q.2)->jL (dh n qs)=jL (qs.map (·.2))
 |[],_=>rfl
 |q::qs,h=>by
  have ih:=yG qs fun x hx=>h x (by simp[hx])
  have e:∀(r:List Int)(R:List (List Int)),jL (r::R)=fU r+jL R:=fun r R=>by unfold jL;rw[map_cons,sum_cons]
  show jL (jA n (hS qs) q.2::dh n qs)=jL (q.2::qs.map (·.2))
  rw[e,e,ih,Gk _ (h q (by simp))]
abbrev qG(k:Int):Int:=if k<0 then-k else k
theorem PQ{n:Nat}{k:Int}(h:dF n k):∃a:Nat,qG k=(a:Int)+1/\a+1<n:=by
 unfold dF at h
 unfold qG
 split
 ·exact⟨(-k-1).toNat,by omega,by omega⟩
 ·exact⟨(k-1).toNat,by omega,by omega⟩
theorem Tq{n:Nat}{p:List Int}(h:∀k∈p,dF n k):Ps n (p.map qG):=fun k hk=>by
 obtain⟨x,hx,rfl⟩:=mem_map.mp hk
 exact PQ (h x hx)
theorem Ko(a b:Bool):y7 (.bl a) (.bl b)=some (.bl (!(a==b))):=rfl
theorem Nc:Dz []=some []:=rfl
theorem Bh{α:Type}(l:List α)(x y:α):(l++[x]).set l.length y=l++[y]:=by simp
structure Gp(n:Nat)(p:List Int):Prop where
 ne:p≠[]
 x:∀k∈p,dF n k
 sg:(∀k∈p,0<k)\/∀k∈p,k<0
 le:∃z,dU (p.map qG) (upTo n)=some z
structure Tt(n i:Nat)(u:List Int)(jn:List (List Int))(o:List Int)(s:Bool):Prop where
 len:jn.length<=i
 lo:o.length=n
 good:∀p∈jn,Gp n p/\p.length<=i
 fla:jn.flatten=u
 last:jn=[]\/∃ini cur,jn=ini++[cur]/\(∀k∈cur,s=decide (0<k))/\dU (cur.map qG) (upTo n)=some o
theorem vD{i:Nat}{env:DE}{a v:Int}{l:List Int}(h:0<=a)(h2:a<l.length):Ao i env (.int v) (aK l) (.int a)=.ok (.nx (env.set i (.own (aK (l.set a.toNat v))))):=by
 rw[Aq h (by rw[bc];exact h2)]
 unfold aK
 rw[map_set]
theorem ED{l:List Int}{a:Nat}(h:a+1<l.length):(l.set (a+1) (aa l a)).set a (aa l (a+1))=cK l a:=by
 refine aR (by rw[length_set,length_set,bE]) fun j hj=>?_
 rw[length_set,length_set]at hj
 rw[wD (by rw[length_set];exact hj),wD hj,bx _ _ h]
 repeat' split
 all_goals first|rfl|omega|(subst_vars;rfl)
theorem Tu{n i:Nat}(hn:n<=7)(hi:i<100){jn:List (List Int)}{o:List Int}{s:Bool}{u:List Int}(J:Tt n i u jn o s){k:Int}(hk:dF n k)(s1 s5 s6 s7:Sl):
  ∃W4 o' s' t5 t6 t7,om (.int k) [.val (.int n),s1,.deep (.ls jn),.own (aK o),.val (.bl s),s5,s6,s7]=.ok (.nx [.val (.int n),s1,.deep (.ls W4),.own (aK o'),.val (.bl s'),t5,t6,t7])/\Tt n (i+1) (u++[k]) W4 o' s':=by
 obtain⟨a,ea,ha⟩:=PQ hk
 have lo:=J.lo
 have hlen:=J.len
 have at1:ig (aK o) ((a:Int)+1-1)=some (.int (aa o a)):=by rw[fz (by omega) (by omega),show((a:Int)+1-1).toNat=a by omega]
 have at2:ig (aK o) ((a:Int)+1)=some (.int (aa o (a+1))):=by rw[fz (by omega) (by omega),show((a:Int)+1).toNat=a+1 by omega]
 have ku:ig (aK (upTo n)) ((a:Int)+1-1)=some (.int (aa (upTo n) a)):=by rw[fz (by omega) (by rw[ak];omega),show((a:Int)+1-1).toNat=a by omega]
 have ku2:ig (aK (upTo n)) ((a:Int)+1)=some (.int (aa (upTo n) (a+1))):=by rw[fz (by omega) (by rw[ak];omega),show((a:Int)+1).toNat=a+1 by omega]
 have hgk:Gp n [k]:=⟨by simp,fun x hx=>by rw[mem_singleton.mp hx];exact hk,by
  unfold dF at hk
  by_cases c:0<k
  ·exact .inl fun x hx=>by rw[mem_singleton.mp hx];exact c
  ·exact .inr fun x hx=>by rw[mem_singleton.mp hx];omega,⟨cK (upTo n) a,by
   show dU [qG k] (upTo n)=_
   rw[ea,jM (n:=n),if_neg (by rw[ao (by omega),ao (by omega)];omega)]
   rfl⟩⟩
 have hkl:dU [qG k] (upTo n)=some (cK (upTo n) a):=by
  rw[ea,jM (n:=n),if_neg (by rw[ao (by omega),ao (by omega)];omega)]
  rfl
 by_cases hnew:jn=[]\/s≠decide (0<k)\/aa o (a+1)<aa o a
 ·refine⟨jn++[[k]],cK (upTo n) a,decide (0<k),.val (.int k),.val (.int ((a:Int)+1)),.val (.int (aa (upTo n) (a+1))),?_,⟨by simp;omega,by rw[bE,ak],fun p hp=>?_,by rw[flatten_append,J.fla];simp,.inr ⟨jn,[k],rfl,fun x hx=>by rw[mem_singleton.mp hx],hkl⟩⟩⟩
  ·have Kq:(if(((jn.length:Nat):Int)==0)=true then R.ok true else if(!(s==decide (0<k)))=true then R.ok true else R.ok (decide (aa o (a+1)<aa o a)):R Bool)=.ok true:=by
    rcases hnew with h|h|h
    ·rw[if_pos (by rw[h];rfl)]
    ·split
     ·rfl
     ·rw[if_pos (by simpa using h)]
    ·rw[decide_eq_true h]
     repeat' split
     all_goals rfl
   unfold om
   simp -implicitDefEqProofs only [jy,mS,mD,mF,gm,aP,reduceAdd,reduceSub,reduceEqDiff,reduceIte,ah,aj,aG,aH,aI,aJ,J1,Ko,ea,at1,at2,length_map,Kq,j3,j5,Nc]
   rw[Em (by omega)]
   simp -implicitDefEqProofs only [reduceIte,ah,aj,aG,aH,aI,aJ,j3,j5,tV]
   rw[kZ n hn]
   simp -implicitDefEqProofs only [reduceIte,ah,aj,aG,aH,aI,aJ,j3,j5,tV]
   rw[El (by simp)]
   simp -implicitDefEqProofs only [reduceIte,ah,aj,aG,aH,aI,aJ,ku,ku2]
   rw[vD (by omega) (by rw[ak];omega)]
   simp -implicitDefEqProofs only [reduceIte,ah,aj,aG,aH,aI,aJ]
   rw[vD (by omega) (by rw[length_set,ak];omega)]
   simp -implicitDefEqProofs only [reduceIte,ah,aj,aG,aH,aI,aJ]
   rw[show((a:Int)+1).toNat=a+1 by omega,show((a:Int)+1-1).toNat=a by omega,ED (by rw[ak];omega),Bh]
  ·rcases mem_append.mp hp with h|h
   ·exact⟨(J.good p h).1,by have:=(J.good p h).2;omega⟩
   ·rw[mem_singleton.mp h]
    exact⟨hgk,by simp⟩
 ·have h1:jn≠[]:=fun z=>hnew (.inl z)
  have h2:s=decide (0<k):=byContradiction fun z=>hnew (.inr (.inl z))
  have h3:¬aa o (a+1)<aa o a:=fun z=>hnew (.inr (.inr z))
  obtain⟨ini,cur,rfl,hs,hl⟩:=J.last.resolve_left h1
  obtain⟨gc,gl⟩:=J.good cur (by simp)
  have W5:dU ((cur++[k]).map qG) (upTo n)=some (cK o a):=by
   rw[map_append,map_cons,map_nil,yz,hl,ea]
   show dU [(a:Int)+1] o=_
   rw[jM (n:=n),if_neg h3]
   rfl
  refine⟨ini++[cur++[k]],cK o a,s,.val (.int k),.val (.int ((a:Int)+1)),.val (.int (aa o (a+1))),?_,⟨by simp at hlen⊢;omega,by rw[bE,lo],fun p hp=>?_,by have:=J.fla;rw[flatten_append]at this⊢;rw[<-this];simp,.inr ⟨ini,cur++[k],rfl,fun x hx=>?_,W5⟩⟩⟩
  ·have Kq:(if((((ini++[cur]).length:Nat):Int)==0)=true then R.ok true else if(!(s==decide (0<k)))=true then R.ok true else R.ok (decide (aa o (a+1)<aa o a)):R Bool)=.ok false:=by
    rw[if_neg (by simp;omega),h2,if_neg (by simp),decide_eq_false h3]
   unfold om
   simp -implicitDefEqProofs only [jy,reduceIte,ah,aj,aG,aH,aI,aJ,J1,Ko,ea,at1,at2,length_map,Kq,j3,j5,tV]
   rw[El (by omega)]
   simp -implicitDefEqProofs only [reduceIte,ah,aj,aG,aH,aI,aJ,at1,at2]
   rw[vD (by omega) (by omega)]
   simp -implicitDefEqProofs only [reduceIte,ah,aj,aG,aH,aI,aJ]
   rw[vD (by omega) (by rw[length_set];omega)]
   simp -implicitDefEqProofs only [reduceIte,ah,aj,aG,aH,aI,aJ]
   rw[show((a:Int)+1).toNat=a+1 by omega,show((a:Int)+1-1).toNat=a by omega,ED (by omega),Bh]
  ·rcases mem_append.mp hp with h|h
   ·exact⟨(J.good p (by simp[h])).1,by have:=(J.good p (by simp[h])).2;omega⟩
   ·rw[mem_singleton.mp h]
    refine⟨⟨by simp,fun x hx=>?_,?_,⟨_,W5⟩⟩,by rw[length_append,length_singleton];omega⟩
    ·rcases mem_append.mp hx with q|q
     ·exact gc.x x q
     ·rw[mem_singleton.mp q];exact hk
    ·have LQ:=hk
     unfold dF at LQ
     by_cases c:0<k
     ·refine .inl fun x hx=>?_
      rcases mem_append.mp hx with q|q
      ·have:=hs x q
       rw[h2,decide_eq_true c]at this
       exact of_decide_eq_true this.symm
      ·rw[mem_singleton.mp q];exact c
     ·refine .inr fun x hx=>?_
      rcases mem_append.mp hx with q|q
      ·have:=hs x q
       rw[h2,decide_eq_false c]at this
       have:=of_decide_eq_false this.symm
       have:=(gc.x x q).1
       omega
      ·rw[mem_singleton.mp q];omega
  ·rcases mem_append.mp hx with q|q
   ·exact hs x q
   ·rw[mem_singleton.mp q];exact h2
theorem Tv{n:Nat}(hn:n<=7){w:List Int}(hw:∀k∈w,dF n k)(hl:w.length<=100):∃jn:List (List Int),AH [.int n,.lst (aK w)]=.ok jn/\jn.flatten=w/\jn.length<=w.length/\∀p∈jn,Gp n p/\p.length<=w.length:=by
 unfold AH O1 mT
 simp -implicitDefEqProofs only [mS,mD,mF,gm,aP,reduceAdd,reduceSub,reduceEqDiff,reduceIte,ah,aj,aG,aH,aI,aJ]
 rw[kZ n hn]
 simp -implicitDefEqProofs only [reduceIte,ah,aj,aG,aH,aI,aJ]
 obtain⟨⟨jn,o,s,t5,t6,t7⟩,e,hj⟩:=qu (S:=List (List Int)×List Int×Bool×Sl×Sl×Sl) (b:=om) (fun i q=>Tt n i (w.take i) q.1 q.2.1 q.2.2.1)
  (fun q=>[.val (.int n),.val (.lst (aK w)),.deep (.ls q.1),.own (aK q.2.1),.val (.bl q.2.2.1),q.2.2.2.1,q.2.2.2.2.1,q.2.2.2.2.2]) (aK w) 0 ([],upTo n,false,.no,.no,.no)
  ⟨Nat.le_refl _,ak n,(fun p hp=>nomatch hp),rfl,.inl rfl⟩ (by
   rintro j ⟨jn,o,s,t5,t6,t7⟩ x hs hx
   obtain⟨k,hk,rfl⟩:=DK hx
   have S9:j<w.length:=(List.getElem?_eq_some_iff.mp hk).1
   obtain⟨p1,o1,s1,u5,u6,u7,e,hJ⟩:=Tu hn (show 0+j<100 by omega) hs (hw k (mem_of_getElem? hk)) (.val (.lst (aK w))) t5 t6 t7
   refine⟨(p1,o1,s1,u5,u6,u7),e,?_⟩
   rw[Nat.zero_add]at hJ⊢
   rw[AA hk]
   exact hJ)
 dsimp only at e hj
 rw[e]
 rw[Nat.zero_add,bc]at hj
 simp -implicitDefEqProofs only [reduceIte,ah,aj,aG,aH,aI,aJ,j3,j5,Ij]
 exact⟨jn,rfl,by rw[hj.fla,take_length],hj.len,hj.good⟩
theorem Gn(w:List Int)(hw:w.length<=1000):og [.lst (aK w)]=.ok (aK (w.reverse.map fun k=> -k)):=by
 unfold og AE
 simp -implicitDefEqProofs only [mS,mD,mF,gm,aP,reduceAdd,reduceSub,reduceEqDiff,reduceIte,ah,aj,aG,aH,aI,aJ,DD,jk]
 rw[qy (fun k=> -k) w.reverse fun k _=>⟨_,jy _ _ _,rfl,rfl⟩]
 simp -implicitDefEqProofs only [reduceIte,ah,aj,aG,aH,aI,aJ,R.oA]
 rw[b7 (by rw[length_map,length_reverse];omega)]
 simp -implicitDefEqProofs only [reduceIte,ah,aj,aG,aH,aI,aJ,gK]
def Bw(q:Int×List Int):D:=.tup [.int q.1,.lst (aK q.2)]
def SpA(n:Nat)(p:List Int)(q:Int×List Int):Prop:=(q.1=0/\(∀k∈p,0<k)/\dU p (upTo n)=some q.2)\/(q.1= -1/\(∀k∈p,k<0)/\∃z,dU (p.reverse.map fun k=> -k) (upTo n)=some z/\Iv n z (ko (p.map qG) (upTo n))/\q.2=fl n (ko (p.map qG) (upTo n)))
structure Us(n:Nat)(p:List Int)(q:Int×List Int):Prop where
 h:q.1=0\/q.1= -1
 r:bB n q.2
 o:∀o:List Int,o.length=n->cmp (kr q.1 o) q.2=ko (p.map qG) o
 c:q.1*(T2 n:Int)+(fU q.2:Int)=pM p
 a:SpA n p q
theorem Kr:∀{p:List Int},(∀k∈p,0<k)->pM p=p.length
 |[],_=>rfl
 |k::p,h=>by
  have ih:=Kr (p:=p) fun x hx=>h x (by simp[hx])
  unfold pM at ih⊢
  rw[map_cons,sum_cons,ih,length_cons]
  unfold Gi
  rw[if_pos (h k (by simp))]
  omega
theorem Ks:∀{p:List Int},(∀k∈p,k<0)->pM p= -(p.length:Int)
 |[],_=>rfl
 |k::p,h=>by
  have ih:=Ks (p:=p) fun x hx=>h x (by simp[hx])
  have:=h k (by simp)
  unfold pM at ih⊢
  rw[map_cons,sum_cons,ih,length_cons]
  unfold Gi
  rw[if_neg (by omega)]
  omega
theorem Nd{n:Nat}(hn:n<=7){p:List Int}(g:Gp n p)(hl:p.length<=1000):∃q,lV [.int n,.lst (aK p)]=.ok (Bw q)/\Us n p q:=by
 obtain⟨k0,p',rfl⟩:=List.exists_cons_of_ne_nil g.ne
 obtain⟨z,hz⟩:=g.le
 have hp:=Tq g.x
 have at0:ig (aK (k0::p')) 0=some (.int k0):=by rw[qW,vh (by decide)];rfl
 unfold lV yr
 simp -implicitDefEqProofs only [mS,mD,mF,gm,aP,reduceAdd,reduceSub,reduceEqDiff,reduceIte,ah,aj,aG,aH,aI,aJ,at0]
 rcases g.sg with hs|hs
 ·have e:(k0::p').map qG=k0::p':=by
   conv=>rhs;rw[<-map_id (k0::p')]
   refine map_congr_left fun x hx=>?_
   have:=hs x hx
   show(if x<0 then-x else x)=x
   rw[if_neg (by omega)]
  rw[e]at hp hz
  simp -implicitDefEqProofs only [mS,mD,mF,gm,aP,reduceAdd,reduceSub,reduceEqDiff,reduceIte,ah,aj,aG,aH,aI,aJ,decide_eq_true (hs k0 (by simp)),yA hn hp hz]
  obtain⟨w1,w2⟩:=oV (k0::p') _ _ z hp (nE n) hz
  refine⟨(0,z),rfl,⟨.inl rfl,tU (Ej hp hz),fun o ho=>?_,?_,.inl ⟨rfl,hs,hz⟩⟩⟩
  ·rw[e,EC ho,<-w1]
   rfl
  ·rw[Kr hs]
   dsimp only
   rw[w2,MV n (by omega)]
   omega
 ·have e:(k0::p').map qG=(k0::p').map fun k=> -k:=map_congr_left fun x hx=>by
   have:=hs x hx
   show(if x<0 then-x else x)= -x
   rw[if_pos this]
  rw[e]at hp hz
  have hk0:=hs k0 (by simp)
  have hr:=JY hp hz
  rw[<-map_reverse]at hr
  have Xl:Ps n ((k0::p').reverse.map fun k=> -k):=fun x hx=>hp x (by
   rw[map_reverse,mem_reverse]at hx
   exact hx)
  simp -implicitDefEqProofs only [mS,mD,mF,gm,aP,reduceAdd,reduceSub,reduceEqDiff,reduceIte,ah,aj,aG,aH,aI,aJ,decide_eq_false (show¬0<k0 by omega),Gn _ hl,yA hn Xl hr]
  have iv:=Ej Xl hr
  unfold iR qe
  simp -implicitDefEqProofs only [mS,mD,mF,gm,aP,reduceAdd,reduceSub,reduceEqDiff,reduceIte,ah,aj,aG,aH,aI,aJ,Gf iv hn]
  have es:ko ((k0::p').reverse.map fun k=> -k).reverse (upTo n)=ko ((k0::p').map qG) (upTo n):=by rw[e,map_reverse,reverse_reverse]
  rw[es]at iv⊢
  obtain⟨w1,w2⟩:=oV ((k0::p').map fun k=> -k) _ _ z hp (nE n) hz
  rw[<-e]at w1
  refine⟨(-1,fl n (ko ((k0::p').map qG) (upTo n))),rfl,⟨.inr rfl,JZ (tU iv.symm),fun o ho=>?_,?_,.inr ⟨rfl,hs,_,hr,iv,rfl⟩⟩⟩
  ·show cmp o.reverse (fl n (ko ((k0::p').map qG) (upTo n)))=_
   rw[Tp ho iv,<-EC ho]
  ·rw[Ks hs]
   dsimp only
   have e1:=Kl iv
   rw[<-w1]at e1⊢
   rw[w2,MV n (by omega),length_map]at e1
   omega
inductive F2 {α β:Type} (R:α->β->Prop):List α->List β->Prop
 |nil:F2 R [] []
 |cons {a:α} {b:β} {l:List α} {m:List β}:R a b->F2 R l m->F2 R (a::l) (b::m)
theorem xh{n:Nat}(hn:n<=7):∀(ps:List (List Int)),(∀p∈ps,Gp n p/\p.length<=1000)->∃qs:List (Int×List Int),dN (bN 0) gf cB (lI 1 [.int n]) (ps.map fun ns=>D.lst (ns.map D.int))=.ok (qs.map Bw)/\qs.length=ps.length/\
  (∀q∈qs,(q.1=0\/q.1= -1)/\bB n q.2)/\(∀o:List Int,o.length=n->Kn o qs=ko (ps.flatten.map qG) o)/\hS qs*(T2 n:Int)+(jL (qs.map (·.2)):Int)=pM ps.flatten/\F2 (Us n) ps qs
 |[],_=>⟨[],rfl,rfl,(fun q hq=>nomatch hq),(fun o _=>rfl),(by show(0:Int)*_+0=0;rw[Int.zero_mul];rfl),.nil⟩
 |p::ps,h=>by
  obtain⟨qs,e1,e2,e3,e8,e9,e10⟩:=xh hn ps fun x hx=>h x (by simp[hx])
  obtain⟨q,e4,e5⟩:=Nd hn (h p (by simp)).1 (h p (by simp)).2
  refine⟨q::qs,?_,by rw[length_cons,length_cons,e2],fun x hx=>?_,fun o ho=>?_,?_,.cons e5 e10⟩
  ·rw[map_cons]
   unfold dN
   rw[e1]
   have e6:cB [.val (.lst (aK p)),.val (.int n)]=.ok (Bw q):=by
    unfold cB
    simp -implicitDefEqProofs only [mS,mD,mF,gm,aP,reduceAdd,reduceSub,reduceEqDiff,reduceIte,ah,aj,aG,aH,aI,aJ,e4]
   rw[jy,R.bV,show gf _=.ok true from rfl,R.bV,if_pos rfl]
   have e7:cB (List.set (lI 1 [.int n]) 0 (.val (.lst (p.map D.int))))=.ok (Bw q):=e6
   rw[e7]
   rfl
  ·rcases mem_cons.mp hx with rfl|hx
   ·exact⟨e5.h,e5.r⟩
   ·exact e3 x hx
  ·show Kn (cmp (kr q.1 o) q.2) qs=_
   rw[e5.o o ho,e8 _ (by rw[EB,ho]),flatten_cons,map_append,rZ]
  ·have hc:=e5.c
   have e:jL (q.2::qs.map (·.2))=fU q.2+jL (qs.map (·.2)):=by unfold jL;rw[map_cons,sum_cons]
   show(q.1+hS qs)*(T2 n:Int)+(jL (q.2::qs.map (·.2)):Int)=_
   rw[e,flatten_cons,vC,<-hc,<-e9,Int.add_mul]
   omega
theorem EE:∀(l:List Int)(a:Nat),cK (cK l a) a=l
 |[],a=>by cases a<;>rfl
 |[x],0=>rfl
 |x::y::l,0=>rfl
 |x::l,a+1=>by rw[qg,qg,EE l a]
theorem Ng(k:Int):qG (-k)=qG k:=by unfold qG;split<;>split<;>omega
theorem Nh{k:Int}(h:k≠0):Gi (-k)= -Gi k:=by unfold Gi;split<;>split<;>omega
theorem Gq{k:Int}(h:k≠0)(s:List Int):pM (fO s k)=pM s+Gi k/\∀o,ko ((fO s k).map qG) o=ko ((s++[k]).map qG) o:=by
 unfold fO
 have e1:∀k,pM [k]=Gi k:=fun k=>by simp[pM]
 split
 ·rename_i hl
  have hne:s≠[]:=fun z=>by rw[z]at hl;cases hl
  have xE:s.dropLast++[-k]=s:=by
   have:=List.dropLast_concat_getLast hne
   rw[List.getLast?_eq_some_getLast hne]at hl
   rw[Option.some.inj hl]at this
   exact this
  have h2:pM s=pM s.dropLast+Gi (-k):=by
   conv=>lhs;rw[<-xE]
   rw[vC,e1]
  refine⟨by rw[h2,Nh h];omega,fun o=>?_⟩
  conv=>rhs;rw[<-xE]
  rw[map_append,map_append,rZ,rZ]
  show _=cK (cK _ (qG (-k)-1).toNat) (qG k-1).toNat
  rw[Ng,EE]
 ·exact⟨by rw[vC,e1],fun o=>rfl⟩
theorem yH:∀(w s:List Int),(∀k∈w,k≠0)->pM (gy s w)=pM s+pM w/\∀o,ko ((gy s w).map qG) o=ko ((s++w).map qG) o
 |[],s,_=>⟨by simp[gy,pM],fun o=>by rw[append_nil];rfl⟩
 |k::w,s,h=>by
  obtain⟨p1,p2⟩:=Gq (h k (by simp)) s
  obtain⟨t1,t2⟩:=yH w (fO s k) fun x hx=>h x (by simp[hx])
  have e:pM (k::w)=Gi k+pM w:=by unfold pM;rw[map_cons,sum_cons]
  refine⟨?_,fun o=>?_⟩
  ·show pM (gy (fO s k) w)=_
   rw[t1,p1,e]
   omega
  ·show ko ((gy (fO s k) w).map qG) o=_
   rw[t2,map_append,rZ,p2,<-rZ,<-map_append,List.append_assoc]
   rfl
theorem Ku{n:Nat}(hn:n<=7){w:List Int}(hw:∀k∈w,dF n k)(hl:w.length<=40):∃qs:List (Int×List Int),dQ [.int n,.lst (aK w)]=.ok (.lst (qs.map Bw))/\qs.length<=w.length/\
  (∀q∈qs,(q.1=0\/q.1= -1)/\bB n q.2)/\(∀o:List Int,o.length=n->Kn o qs=ko (w.map qG) o)/\hS qs*(T2 n:Int)+(jL (qs.map (·.2)):Int)=pM w/\∃jn:List (List Int),jn.flatten=gy [] w/\(∀p∈jn,Gp n p)/\F2 (Us n) jn qs:=by
 have T6:=w9 w []
 simp -implicitDefEqProofs only [length_nil]at T6
 obtain⟨t1,t2⟩:=yH w [] fun k hk=>(hw k hk).1
 obtain⟨jn,e1,ef,e2,e3⟩:=Tv hn (w:=gy [] w) (fun k hk=>by
  rcases A9 w [] k hk with h|h
  ·cases h
  ·exact hw k h) (by omega)
 obtain⟨qs,e4,e5,e6,e7,e8,e10⟩:=xh hn jn fun p hp=>⟨(e3 p hp).1,by have:=(e3 p hp).2;omega⟩
 rw[ef]at e7 e8
 refine⟨qs,?_,by omega,e6,fun o ho=>by rw[e7 o ho,t2];rfl,(by rw[e8,t1];show 0+pM w=_;omega),jn,ef,fun p hp=>(e3 p hp).1,e10⟩
 unfold dQ nq
 simp -implicitDefEqProofs only [mS,mD,mF,gm,aP,reduceAdd,reduceSub,reduceEqDiff,reduceIte,ah,aj,aG,aH,aI,aJ,CG w (by omega),e1,R.oA,jk,e4]
 rw[qt (by rw[length_map];exact big (by omega))]
 simp -implicitDefEqProofs only [reduceIte,ah,aj,aG,aH,aI,aJ]
theorem Ni{n:Nat}(hn:n<=7)(h:Int){r:List Int}(hr:bB n r):fK [.int h,.lst (aK r)]=.ok (aK (jA n h r)):=by
 unfold fK qd jA
 simp -implicitDefEqProofs only [mS,mD,mF,gm,aP,reduceAdd,reduceSub,reduceEqDiff,reduceIte,ah,aj,aG,aH,aI,aJ]
 rw[gJ _ _ (by decide)]
 simp -implicitDefEqProofs only [reduceIte,ah,aj,aG,aH,aI,aJ]
 by_cases c:h%2=0
 ·rw[if_pos c]
  simp -implicitDefEqProofs only [reduceIte,ah,aj,aG,aH,aI,aJ,show(h%2==0)=true by rw[beq_iff_eq];exact c,gK]
 ·rw[if_neg c]
  simp -implicitDefEqProofs only [reduceIte,ah,aj,aG,aH,aI,aJ,show(h%2==0)=false by rw[beq_eq_false_iff_ne];exact c,CD hr.len hn,gK]
theorem Nj{n:Nat}(hn:n<=7){qs:List (Int×List Int)}(hq:∀q∈qs,bB n q.2)(hl:qs.length<=100):bf [.lst (qs.map Bw)]=.ok (dh n qs):=by
 unfold bf jb mT
 simp -implicitDefEqProofs only [mS,mD,mF,gm,aP,reduceAdd,reduceSub,reduceEqDiff,reduceIte,ah,aj,aG,aH,aI,aJ]
 obtain⟨⟨rs,h,t3⟩,e,hj1,MP⟩:=qu (S:=List (List Int)×Int×Sl) (b:=dA) (fun i q=>q.1=(dh n (qs.drop (qs.length-i))).reverse/\q.2.1=hS (qs.drop (qs.length-i)))
  (fun q=>[.val (.lst (qs.map Bw)),.deep (.ls q.1),.val (.int q.2.1),q.2.2]) (qs.map Bw).reverse 0 ([],0,.no) ⟨by rw[sub_zero,drop_length];rfl,by rw[sub_zero,drop_length];rfl⟩ (by
   rintro j ⟨rs,h,t3⟩ x ⟨hs1,hs2⟩ hx
   rw[Nat.zero_add]at hs1 hs2⊢
   dsimp only at hs1 hs2
   have S9:j<(qs.map Bw).reverse.length:=(List.getElem?_eq_some_iff.mp hx).1
   rw[length_reverse,length_map]at S9
   rw[getElem?_reverse (by rw[length_map];exact S9),length_map,getElem?_map,getElem?_eq_getElem (show qs.length-1-j<qs.length by omega)]at hx
   have Ii:x=Bw (qs[qs.length-1-j]'(by omega)):=(Option.some.inj hx).symm
   have hd:qs.drop (qs.length-(j+1))=(qs[qs.length-1-j]'(by omega))::qs.drop (qs.length-j):=by
    rw[show qs.length-(j+1)=qs.length-1-j by omega,drop_eq_getElem_cons (by omega),show qs.length-1-j+1=qs.length-j by omega]
   have hqm:(qs[qs.length-1-j]'(by omega))∈qs:=getElem_mem _
   generalize (qs[qs.length-1-j]'(by omega))=q at Ii hd hqm
   obtain⟨hh,r⟩:=q
   subst Ii
   have e1:=Ni hn h (hq _ hqm)
   have hlen:rs.length<=100:=by rw[hs1,length_reverse,tY,length_drop];omega
   refine⟨(rs++[jA n h r],h+hh,.val (Bw (hh,r))),?_,?_,?_⟩
   ·unfold dA
    have a1:ig [D.int hh,.lst (aK r)] 1=some (.lst (aK r)):=rfl
    have a0:ig [D.int hh,.lst (aK r)] 0=some (.int hh):=rfl
    simp -implicitDefEqProofs only [jy,reduceIte,ah,aj,aG,aH,aI,aJ,Bw,j3,j5,a1,a0,e1,wc]
    rw[Em (by omega)]
    simp -implicitDefEqProofs only [reduceIte,ah,aj,aG,aH,aI,aJ,a0,FI]
   ·show rs++[jA n h r]=_
    rw[hd,hs1,hs2]
    show _=(jA n (hS (qs.drop (qs.length-j))) r::dh n (qs.drop (qs.length-j))).reverse
    rw[reverse_cons]
   ·show h+hh=_
    rw[hd,hs2]
    show _=hh+hS (qs.drop (qs.length-j))
    omega)
 dsimp only at e hj1 MP
 rw[e]
 rw[Nat.zero_add,length_reverse,length_map,sub_self,drop_zero]at hj1
 simp -implicitDefEqProofs only [reduceIte,ah,aj,aG,aH,aI,aJ,j3,j5,Ij,hj1,reverse_reverse]
theorem Bj{n:Nat}(hn:n<=7):∀(rs:List (List Int))(R:List RP),(∀r∈rs,bB n r)->oG n R->(∀o:List Int,o.length=n->xX o ((rs.foldl (fun R r=>eO n R (r,vq r)) R).map (·.1))=xX o (R.map (·.1)++rs))/\jL ((rs.foldl (fun R r=>eO n R (r,vq r)) R).map (·.1))=jL (R.map (·.1))+jL rs
 |[],R,_,_=>⟨fun o _=>by rw[append_nil];rfl,by simp[jL]⟩
 |r::rs,R,hr,h=>by
  have iv:=oF (hr r (by simp))
  obtain⟨a1,a2⟩:=MM hn (nE n) (MV n (by omega)) (c:=(r,vq r)) h.iv iv
  obtain⟨b1,b2⟩:=Bj hn rs (eO n R (r,vq r)) (fun x hx=>hr x (by simp[hx])) (Cr hn (nE n) h iv)
  have e:jL (r::rs)=fU r+jL rs:=by unfold jL;rw[map_cons,sum_cons]
  refine⟨fun o ho=>?_,?_⟩
  ·show xX o ((rs.foldl (fun R r=>eO n R (r,vq r)) (eO n R (r,vq r))).map (·.1))=_
   rw[b1 o ho,mH,a1 o ho,<-mH,List.append_assoc]
   rfl
  ·show jL ((rs.foldl (fun R r=>eO n R (r,vq r)) (eO n R (r,vq r))).map (·.1))=_
   rw[b2,a2,e]
   show _+fU r+_=_
   omega
theorem Kv(qs:List (Int×List Int)):dN (bN 0) jT jU (lI 1 []) (qs.map Bw)=.ok (aK (qs.map (·.1))):=by
 rw[ph (fun d=>match d with
  |.tup (x::_)=>x
  |_=>.non) _ fun x hx=>by
   obtain⟨q,hq,rfl⟩:=mem_map.mp hx
   exact⟨_,jy _ _ _,rfl,rfl⟩]
 unfold aK
 rw[map_map,map_map]
 rfl
theorem Kx(n:Nat):Iv n (eJ n).1 (eJ n).2:=by
 have c:∀p,p<n->aa (upTo n).reverse p=((n-1-p:Nat):Int):=fun p hp=>by
  rw[fu (by rw[ak];exact hp),ak,ao (by omega)]
 have h:∀p,p<n->0<=aa (upTo n).reverse p/\aa (upTo n).reverse p<n/\aa (upTo n).reverse (aa (upTo n).reverse p).toNat=p:=fun p hp=>by
  rw[c p hp,toNat_natCast,c _ (by omega)]
  exact⟨by omega,by omega,by omega⟩
 exact⟨by show(upTo n).reverse.length=n;rw[length_reverse,ak],by show(upTo n).reverse.length=n;rw[length_reverse,ak],h,h⟩
theorem Ky{n:Nat}{o:List Int}(h:o.length=n):cmp o (upTo n).reverse=o.reverse:=by
 refine aR (by rw[fA,length_reverse,length_reverse,ak,h]) fun t ht=>?_
 rw[fA,length_reverse,ak]at ht
 rw[dB (by rw[length_reverse,ak];exact ht),fu (by rw[ak];exact ht),ak,ao (by omega),toNat_natCast,fu (by rw[h];exact ht),h]
theorem Bk(a b:Int)(o:List Int):kr a (kr b o)=kr (a+b) o:=by
 unfold kr
 by_cases c:a%2=0
 ·rw[if_pos c]
  by_cases d:b%2=0
  ·rw[if_pos d,if_pos (by omega)]
  ·rw[if_neg d,if_neg (by omega)]
 ·rw[if_neg c]
  by_cases d:b%2=0
  ·rw[if_pos d,if_neg (by omega)]
  ·rw[if_neg d,if_pos (by omega),reverse_reverse]
theorem yI{n:Nat}:∀(m:Nat)(o:List Int),o.length=n->xX o ((replicate m (eJ n)).map (·.1))=kr m o
 |0,o,_=>rfl
 |m+1,o,h=>by
  rw[replicate_succ,map_cons]
  show xX (cmp o (upTo n).reverse) _=_
  rw[Ky h,yI m _ (by rw[length_reverse];exact h),show o.reverse=kr 1 o from rfl,Bk]
  congr 1
theorem yJ{n:Nat}(hc:fU (upTo n).reverse=T2 n):∀m:Nat,(jL ((replicate m (eJ n)).map (·.1)):Int)=m*(T2 n:Int)
 |0=>by rw[show((0:Nat):Int)=0 from rfl,Int.zero_mul];rfl
 |m+1=>by
  have e:∀(r:List Int)(R:List (List Int)),jL (r::R)=fU r+jL R:=fun r R=>by unfold jL;rw[map_cons,sum_cons]
  rw[replicate_succ,map_cons,e]
  show((fU (upTo n).reverse+jL _:Nat):Int)=_
  rw[hc,Int.natCast_add,yJ hc m,Int.natCast_add,Int.add_mul]
  omega
theorem Kz{n:Nat}(hn:n<8):fU (upTo n).reverse=T2 n:=by
 have:=EA (nE n)
 rw[MV n hn]at this
 omega
structure Ut(n:Nat)(w:List Int)(h:Int)(R:List RP):Prop where
 ln:oG n R
 nh:∀x∈R,x≠eJ n
 or:xX (kr h (upTo n)) (R.map (·.1))=ko (w.map qG) (upTo n)
 cr:h*(T2 n:Int)+(jL (R.map (·.1)):Int)=pM w
 bd: -(w.length:Int)<=h/\h<=w.length
 le:R.length<=40
theorem ux.app:∀{A B:List RP},ux (A++B)->ux A
 |[],B,_=>trivial
 |[p],B,_=>trivial
 |q::p::A,B,h=>⟨h.1,ux.app (A:=p::A) h.2⟩
def Bl(r:List Int):RP:=(r,vq r)
theorem EF{n:Nat}(h1:1<=n)(hn:n<=7){w:List Int}(hw:∀k∈w,dF n k)(hl:w.length<=40):∃h R,gR [.int n,.lst (aK w)]=.ok (.tup [.int h,.lst (R.map fun p=>.lst (aK p.1))])/\Ut n w h R/\∃(qs:List (Int×List Int))(jn:List (List Int)),(h,R)=Vl n (hS qs) ((dh n qs).map Bl)/\(∀q∈qs,(q.1=0\/q.1= -1)/\bB n q.2)/\jn.flatten=gy [] w/\(∀p∈jn,Gp n p)/\F2 (Us n) jn qs:=by
 obtain⟨qs,e1,e2,e3,e7,e8,jn,g1,g2,g3⟩:=Ku hn hw hl
 have hq2:∀q∈qs,bB n q.2:=fun q hq=>(e3 q hq).2
 have e4:=Nj hn hq2 (by omega)
 have e5:=tY n qs
 have e6:=yE qs hq2
 have l0:oG n []:=⟨(fun x hx=>nomatch hx),trivial,(fun x hx=>nomatch hx)⟩
 have hL:oG n (fM n (dh n qs)):=D0 hn (nE n) (dh n qs) [] e6 l0
 obtain⟨p1,p2⟩:=Bj hn (dh n qs) [] e6 l0
 have hcl:=rE n (dh n qs) []
 rw[length_nil]at hcl
 have MU:(fM n (dh n qs)).length<=qs.length:=by
  show((dh n qs).foldl (fun R r=>eO n R (r,vq r)) []).length<=qs.length
  omega
 have p1':∀o:List Int,o.length=n->xX o ((fM n (dh n qs)).map (·.1))=xX o (dh n qs):=p1
 have p2':jL ((fM n (dh n qs)).map (·.1))=jL (dh n qs):=by
  have:jL ((fM n (dh n qs)).map (·.1))=0+jL (dh n qs):=p2
  omega
 have hsb: -(qs.length:Int)<=hS qs/\hS qs<=0:=by
  clear g3 e1 e4 e5 e6 hL p1 p2 hcl MU p1' p2' e7 e8 e2 hq2
  induction qs with
  |nil=>exact⟨Int.le_refl _,Int.le_refl _⟩
  |cons q qs ih=>
   have:=ih fun x hx=>e3 x (by simp[hx])
   have:=(e3 q (by simp)).1
   rw[show hS (q::qs)=q.1+hS qs from rfl,length_cons]
   omega
 have hV:pY n ((dh n qs).map Bl)=fM n (dh n qs):=by unfold pY fM;rw[List.foldl_map];rfl
 generalize hR:fM n (dh n qs)=C at*
 have hcn:dM n C<=C.length:=List.Sublist.length_le (List.takeWhile_sublist _)
 have xE:=wJ (n:=n) C
 have hrest:=F9 (Kx n) hL
 refine⟨dM n C+hS qs,C.drop (dM n C),?_,⟨⟨fun x hx=>hL.iv x (mem_of_mem_drop hx),?_,fun x hx=>hL.ns x (mem_of_mem_drop hx)⟩,hrest,?_,?_,by omega,by rw[length_drop];omega⟩,qs,jn,(by unfold Vl;rw[hV,Int.add_comm]),e3,g1,g2,g3⟩
 ·unfold gR JE
  simp -implicitDefEqProofs only [mS,mD,mF,gm,aP,reduceAdd,reduceSub,reduceEqDiff,reduceIte,ah,aj,aG,aH,aI,aJ,e1]
  have e9:dR [.int n,.lst (qs.map Bw)]=R.ne (R.bind (D5 [.val (.int n),.val (.lst (qs.map Bw)),.no,.no,.val (uw n C)]) ah):=by
   show R.ne (R.bind (bf [.lst (qs.map Bw)]) _)=_
   rw[e4,R.bV]
   refine congrArg R.ne ((if_pos ⟨⟨by omega,by omega⟩,by omega,e6⟩).trans ?_)
   rw[toNat_natCast,hR]
  rw[e9]
  unfold D5 uw
  have a0:∀(x y:D),ig [x,y] 0=some x:=fun _ _=>rfl
  have a1:∀(x y:D),ig [x,y] 1=some y:=fun _ _=>rfl
  simp -implicitDefEqProofs only [reduceIte,ah,aj,aG,aH,aI,aJ,a0,a1,jk,Kv,R.oA]
  rw[b7 (by rw[length_map];omega)]
  simp -implicitDefEqProofs only [reduceIte,ah,aj,aG,aH,aI,aJ,yk,wc,map_some]
 ·have:=hL.lw
  rw[xE,reverse_append]at this
  exact this.app
 ·have h2:=p1' (kr (hS qs) (upTo n)) (by rw[Bf,ak])
  rw[yF qs (upTo n) hq2 (ak n),e7 _ (ak n)]at h2
  rw[<-h2]
  conv=>rhs;rw[xE]
  rw[map_append,mH,yI _ _ (by rw[Bf,ak]),Bk]
 ·rw[yG qs hq2]at p2'
  have h3:jL (C.map (·.1))=jL ((replicate (dM n C) (eJ n)).map (·.1))+jL ((C.drop (dM n C)).map (·.1)):=by
   conv=>lhs;rw[xE]
   rw[map_append,rF]
  have h4:=yJ (Kz (show n<8 by omega)) (dM n C)
  rw[<-e8,<-p2',h3,Int.natCast_add,h4,Int.add_mul]
  omega
def act(n:Nat)(k:Int)(ω:Int×List RP):Int×List RP:=if 0<k then Pa n (Xr n (k-1).toNat) ω else Ma n (Xr n (-k-1).toNat) ω
def mh(n:Nat)(w:List Int)(ω:Int×List RP):Int×List RP:=w.foldl (fun ω k=>act n k ω) ω
theorem jg(n:Nat)(u v:List Int)(ω:Int×List RP):mh n (u++v) ω=mh n v (mh n u ω):=foldl_append
theorem Nk{o:List Int}{a b:Nat}(ha:a+1<o.length)(hb:b+1<o.length)(h:a+2<=b\/b+2<=a):cK (cK o a) b=cK (cK o b) a:=by
 refine aR (by rw[bE,bE,bE,bE]) fun j _=>?_
 simp -implicitDefEqProofs only [bx _ a (show a+1<(cK o b).length by rw[bE];exact ha),bx _ b (show b+1<(cK o a).length by rw[bE];exact hb),bx _ a ha,bx _ b hb]
 repeat' split
 all_goals first|omega|(congr 1;omega)|rfl
theorem KA{o:List Int}{a:Nat}(h:a+2<o.length):cK (cK (cK o a) (a+1)) a=cK (cK (cK o (a+1)) a) (a+1):=by
 refine aR (by simp -implicitDefEqProofs only [bE]) fun j _=>?_
 have l1:a+1<(cK (cK o a) (a+1)).length:=by simp -implicitDefEqProofs only [bE];omega
 have l2:a+1+1<(cK o a).length:=by simp -implicitDefEqProofs only [bE];omega
 have l3:a+1<o.length:=by omega
 have m1:a+1+1<(cK (cK o (a+1)) a).length:=by simp -implicitDefEqProofs only [bE];omega
 have m2:a+1<(cK o (a+1)).length:=by simp -implicitDefEqProofs only [bE];omega
 have m3:a+1+1<o.length:=by omega
 simp -implicitDefEqProofs only [bx _ a l1,bx _ (a+1) l2,bx _ a l3,bx _ (a+1) m1,bx _ a m2,bx _ (a+1) m3]
 repeat' split
 all_goals first|omega|exact absurd trivial (by assumption)|(congr 1;omega)|rfl
section
variable{n:Nat}(hn:n<=7)(h2:2<=n)
include hn h2
theorem vE{k:Int}(hk:dF n k)(h:0<k)(ω:Int×List RP):∃a:Nat,k=(a:Int)+1/\a+1<n/\act n k ω=Pa n (Xr n a) ω/\act n (-k) ω=Ma n (Xr n a) ω:=by
 unfold dF at hk
 refine⟨(k-1).toNat,by omega,by omega,if_pos h,?_⟩
 unfold act
 rw[if_neg (by omega),show- -k-1=k-1 by omega]
theorem KC{k:Int}(hk:dF n k){ω:Int×List RP}(hc:Cv n ω):Cv n (act n k ω):=by
 unfold dF at hk
 unfold act
 split
 ·exact Be hn h2 hc (cW (by omega))
 ·exact xf hn h2 hc (cW (by omega))
theorem vG:∀(w:List Int){ω:Int×List RP},(∀k∈w,dF n k)->Cv n ω->Cv n (mh n w ω)
 |[],_,_,hc=>hc
 |k::w,ω,h,hc=>vG w (ω:=act n k ω) (fun x hx=>h x (by simp[hx])) (KC hn h2 (h k (by simp)) hc)
theorem EG{k:Int}(hk:dF n k){ω:Int×List RP}(hc:Cv n ω):act n (-k) (act n k ω)=ω:=by
 have LQ:=hk
 unfold dF at LQ
 by_cases h:0<k
 ·obtain⟨a,e,ha,e1,_⟩:=vE hn h2 hk h ω
  obtain⟨b,e',_,_,e2⟩:=vE hn h2 hk h (act n k ω)
  obtain rfl:a=b:=by omega
  rw[e2,e1]
  exact xg hn h2 hc (cW ha)
 ·have hm:dF n (-k):=by unfold dF;omega
  obtain⟨a,e,ha,_,e1⟩:=vE hn h2 hm (by omega) ω
  obtain⟨b,e',_,e2,_⟩:=vE hn h2 hm (by omega) (act n k ω)
  obtain rfl:a=b:=by omega
  rw[Int.neg_neg]at e1
  rw[e2,e1]
  exact yD hn h2 hc (cW ha)
end
theorem g8{n a t:Nat}(ha:a+1<n)(ht:t<n):aa (Xr n a).1 t=if t=a then(a:Int)+1 else if t=a+1 then(a:Int)else t:=by
 show aa (cK (upTo n) a) t=_
 rw[bx _ _ (by rw[ak];exact ha),ao ha,ao (by omega),ao ht]
 repeat' split
 all_goals omega
section
variable{n:Nat}(hn:n<=7)(h2:2<=n)
include hn h2
theorem PR{a b:Nat}(ha:a+1<n)(hb:b+1<n)(h:a+2<=b\/b+2<=a){ω:Int×List RP}(hc:Cv n ω):Pa n (Xr n a) (Pa n (Xr n b) ω)=Pa n (Xr n b) (Pa n (Xr n a) ω):=by
 rw[qF hn h2 hc (cW hb) ha (by rw[g8 hb (by omega),g8 hb ha];(repeat' split)<;>omega),qF hn h2 hc (cW ha) hb (by rw[g8 ha (by omega),g8 ha hb];(repeat' split)<;>omega)]
 congr 1
 exact jz (bQ (cW hb) ha) (bQ (cW ha) hb) (Nk (o:=upTo n) (by rw[ak];exact hb) (by rw[ak];exact ha) (by omega))
theorem KD{a:Nat}(ha:a+2<n){ω:Int×List RP}(hc:Cv n ω):Pa n (Xr n a) (Pa n (Xr n (a+1)) (Pa n (Xr n a) ω))=Pa n (Xr n (a+1)) (Pa n (Xr n a) (Pa n (Xr n (a+1)) ω)):=by
 have h1:a+1<n:=by omega
 have h3:a+1+1<n:=by omega
 have c1:∀t,t<n->aa (nv (Xr n a) (a+1)).1 t=if t=a+1 then aa (Xr n a).1 (a+1+1)else if t=a+1+1 then aa (Xr n a).1 (a+1)else aa (Xr n a).1 t:=fun t ht=>bx _ _ (by rw[(cW h1).lr];exact h3) t
 have c2:∀t,t<n->aa (nv (Xr n (a+1)) a).1 t=if t=a then aa (Xr n (a+1)).1 (a+1)else if t=a+1 then aa (Xr n (a+1)).1 a else aa (Xr n (a+1)).1 t:=fun t ht=>bx _ _ (by rw[(cW h3).lr];exact h1) t
 rw[qF hn h2 hc (cW h1) h3 (by rw[g8 h1 h1,g8 h1 h3];(repeat' split)<;>omega),
  qF hn h2 hc (bQ (cW h1) h3) h1 (by rw[c1 a (by omega),c1 (a+1) h1,g8 h1 h1,g8 h1 h3,g8 h1 (by omega)];(repeat' split)<;>omega),
  qF hn h2 hc (cW h3) h1 (by rw[g8 h3 (by omega),g8 h3 h1];(repeat' split)<;>omega),
  qF hn h2 hc (bQ (cW h3) h1) h3 (by rw[c2 (a+1) h1,c2 (a+1+1) h3,g8 h3 h1,g8 h3 h3,g8 h3 (by omega)];(repeat' split)<;>omega)]
 congr 1
 exact jz (bQ (bQ (cW h1) h3) h1) (bQ (bQ (cW h3) h1) h3) (KA (o:=upTo n) (by rw[ak];exact ha))
theorem CN{a b:Nat}(ha:a+1<n)(hb:b+1<n)(h:a+2<=b\/b+2<=a){ω:Int×List RP}(hc:Cv n ω):Pa n (Xr n a) (Ma n (Xr n b) ω)=Ma n (Xr n b) (Pa n (Xr n a) ω):=by
 have c1:=xf hn h2 hc (cW hb)
 have e:ω=Pa n (Xr n b) (Ma n (Xr n b) ω):=(yD hn h2 hc (cW hb)).symm
 conv=>rhs;rw[e]
 rw[PR hn h2 ha hb h c1,xg hn h2 (Be hn h2 c1 (cW ha)) (cW hb)]
theorem W6{a b:Nat}(ha:a+1<n)(hb:b+1<n)(h:a+2<=b\/b+2<=a){ω:Int×List RP}(hc:Cv n ω):Ma n (Xr n a) (Ma n (Xr n b) ω)=Ma n (Xr n b) (Ma n (Xr n a) ω):=by
 have ca:=xf hn h2 hc (cW ha)
 have NK:=xf hn h2 ca (cW hb)
 have e:ω=Pa n (Xr n a) (Ma n (Xr n a) ω):=(yD hn h2 hc (cW ha)).symm
 conv=>lhs;rw[e]
 rw[<-CN hn h2 ha hb h ca,xg hn h2 NK (cW ha)]
theorem Tw{a:Nat}(ha:a+2<n){ω:Int×List RP}(hc:Cv n ω):Ma n (Xr n a) (Ma n (Xr n (a+1)) (Ma n (Xr n a) ω))=Ma n (Xr n (a+1)) (Ma n (Xr n a) (Ma n (Xr n (a+1)) ω)):=by
 have h1:a+1<n:=by omega
 have h3:a+1+1<n:=by omega
 have x1:=cW h1
 have x3:=cW h3
 have c1:=xf hn h2 hc x3
 have c2:=xf hn h2 c1 x1
 have c3:=xf hn h2 c2 x3
 have e:ω=Pa n (Xr n (a+1)) (Pa n (Xr n a) (Pa n (Xr n (a+1)) (Ma n (Xr n (a+1)) (Ma n (Xr n a) (Ma n (Xr n (a+1)) ω))))):=by
  rw[yD hn h2 c2 x3,yD hn h2 c1 x1,yD hn h2 hc x3]
 generalize Ma n (Xr n (a+1)) (Ma n (Xr n a) (Ma n (Xr n (a+1)) ω))=z at e c3⊢
 rw[e,<-KD hn h2 ha c3,xg hn h2 (Be hn h2 (Be hn h2 c3 x1) x3) x1,xg hn h2 (Be hn h2 c3 x1) x3,xg hn h2 c3 x1]
end
def Lk(n:Nat)(u v:List Int):Prop:=∀ω,Cv n ω->mh n u ω=mh n v ω
theorem Lk.symm {n:Nat}{u v:List Int}(h:Lk n u v):Lk n v u:=fun ω hc=>(h ω hc).symm
theorem Lk.refl (n:Nat)(u:List Int):Lk n u u:=fun _ _=>rfl
theorem Lk.trans {n:Nat}{u v w:List Int}(h:Lk n u v)(g:Lk n v w):Lk n u w:=fun ω hc=>(h ω hc).trans (g ω hc)
section
variable{n:Nat}(hn:n<=7)(h2:2<=n)
include hn h2
theorem Lk.mid {u v:List Int}(h:Lk n u v){a b:List Int}(ha:∀k∈a,dF n k):Lk n (a++u++b) (a++v++b):=fun ω hc=>by
 rw[jg,jg,jg,jg,h _ (vG hn h2 a ha hc)]
theorem KG{k:Int}(hk:dF n k):Lk n [k,-k] []:=fun ω hc=>EG hn h2 hk hc
theorem Tz{k l:Int}(hk:dF n k)(hl:dF n l)(h:k.natAbs+2<=l.natAbs\/l.natAbs+2<=k.natAbs):Lk n [k,l] [l,k]:=fun ω hc=>by
 show act n l (act n k ω)=act n k (act n l ω)
 have LQ:=hk
 have Ib:=hl
 unfold dF at LQ Ib
 have pk:0<k->∀ω,act n k ω=Pa n (Xr n (k-1).toNat) ω:=fun a _=>if_pos a
 have mk:¬0<k->∀ω,act n k ω=Ma n (Xr n (-k-1).toNat) ω:=fun a _=>if_neg a
 have pl:0<l->∀ω,act n l ω=Pa n (Xr n (l-1).toNat) ω:=fun a _=>if_pos a
 have ml:¬0<l->∀ω,act n l ω=Ma n (Xr n (-l-1).toNat) ω:=fun a _=>if_neg a
 by_cases a:0<k
 ·by_cases b:0<l
  ·simp -implicitDefEqProofs only [pk a,pl b]
   exact PR (a:=(l-1).toNat) (b:=(k-1).toNat) hn h2 (by omega) (by omega) (by omega) hc
  ·simp -implicitDefEqProofs only [pk a,ml b]
   exact(CN (a:=(k-1).toNat) (b:=(-l-1).toNat) hn h2 (by omega) (by omega) (by omega) hc).symm
 ·by_cases b:0<l
  ·simp -implicitDefEqProofs only [mk a,pl b]
   exact CN (a:=(l-1).toNat) (b:=(-k-1).toNat) hn h2 (by omega) (by omega) (by omega) hc
  ·simp -implicitDefEqProofs only [mk a,ml b]
   exact W6 (a:=(-l-1).toNat) (b:=(-k-1).toNat) hn h2 (by omega) (by omega) (by omega) hc
theorem KH{k l:Int}{a:Nat}(ha:k.natAbs=a+1)(hb:l.natAbs=a+2)(h3:a+2<n)(hs:(0<k)=(0<l)):Lk n [k,l,k] [l,k,l]:=fun ω hc=>by
 show act n k (act n l (act n k ω))=act n l (act n k (act n l ω))
 have pk:0<k->∀ω,act n k ω=Pa n (Xr n a) ω:=fun c _=>by unfold act;rw[if_pos c,show(k-1).toNat=a by omega]
 have mk:¬0<k->∀ω,act n k ω=Ma n (Xr n a) ω:=fun c _=>by unfold act;rw[if_neg c,show(-k-1).toNat=a by omega]
 have pl:0<l->∀ω,act n l ω=Pa n (Xr n (a+1)) ω:=fun c _=>by unfold act;rw[if_pos c,show(l-1).toNat=a+1 by omega]
 have ml:¬0<l->∀ω,act n l ω=Ma n (Xr n (a+1)) ω:=fun c _=>by unfold act;rw[if_neg c,show(-l-1).toNat=a+1 by omega]
 by_cases c:0<k
 ·have d:0<l:=hs▸c
  simp -implicitDefEqProofs only [pk c,pl d]
  exact KD hn h2 h3 hc
 ·have d:¬0<l:=hs▸c
  simp -implicitDefEqProofs only [mk c,ml d]
  exact Tw hn h2 h3 hc
end
theorem mV{n:Nat}{r:List Int}(h:bB n r):Iv n (Bl r).1 (Bl r).2:=oF h
theorem vH{n:Nat}:Cv n ((0:Int),[]):=⟨fun x hx=>(nomatch hx),rfl⟩
section
variable{n:Nat}(hn:n<=7)(h2:2<=n)
include hn h2
theorem KI{ω:Int×List RP}(hc:Cv n ω):Pa n (Zr n) ω=ω:=by
 have:=CL (A:=ω.2) (B:=[]) hn ω.1 hc.iv (fun x hx=>nomatch hx)
 rw[append_nil]at this
 exact this.trans hc.id
theorem xj{ω:Int×List RP}(hc:Cv n ω):∀(w:List Int)(c:RP)(z:List Int),Ps n w->Iv n c.1 c.2->dU w c.1=some z->mh n w (Pa n c ω)=Pa n (Bl z) ω/\bB n z
 |[],c,z,_,ic,h=>by
  obtain rfl:c.1=z:=Option.some.inj h
  have hr:=tU ic
  refine⟨?_,hr⟩
  show Pa n c ω=_
  rw[jz ic (mV hr) rfl]
  rfl
 |k::w,c,z,hw,ic,h=>by
  obtain⟨a,rfl,ha⟩:=hw k (by simp)
  unfold dU at h
  split at h
  ·cases h
  ·rename_i hc2
   rw[show((a:Int)+1-1).toNat=a by omega,show((a:Int)+1).toNat=a+1 by omega]at hc2
   rw[show((a:Int)+1-1).toNat=a by omega]at h
   have hne:=Pz ic ha
   have hlt:aa c.1 a<aa c.1 (a+1):=by
    have:¬aa c.1 (a+1)<aa c.1 a:=fun z=>hc2 (.inr z)
    omega
   have ih:=xj hc w (nv c a) z (fun x hx=>hw x (by simp[hx])) (bQ ic ha) h
   refine⟨?_,ih.2⟩
   show mh n w (act n ((a:Int)+1) (Pa n c ω))=_
   have e:act n ((a:Int)+1) (Pa n c ω)=Pa n (nv c a) ω:=by
    unfold act
    rw[if_pos (by omega),show((a:Int)+1-1).toNat=a by omega]
    exact qF hn h2 hc ic ha hlt
   rw[e]
   exact ih.1
theorem Bm:∀(p:List Int){ω:Int×List RP},(∀k∈p,dF n k)->Cv n ω->mh n (p.reverse.map fun k=> -k) (mh n p ω)=ω
 |[],_,_,_=>rfl
 |k::p,ω,h,hc=>by
  have hk:=h k (by simp)
  rw[reverse_cons,map_append,jg]
  show act n (-k) (mh n (p.reverse.map fun k=> -k) (mh n p (act n k ω)))=ω
  rw[Bm p (fun x hx=>h x (by simp[hx])) (KC hn h2 hk hc)]
  exact EG hn h2 hk hc
end
def pZ(n:Nat)(g:Int)(L:List RP):List RP:=if g%2=0 then L else L.map (kq n)
def CO(n:Nat)(q:Int×List Int)(ω:Int×List RP):Int×List RP:=Vl n (ω.1+q.1) (pZ n q.1 ω.2++[Bl q.2])
section
variable{n:Nat}(hn:n<=7)(h2:2<=n)
include hn h2
theorem Gr{p:List Int}{q:Int×List Int}(g:Gp n p)(s:Us n p q){ω:Int×List RP}(hc:Cv n ω):CO n q ω=mh n p ω:=by
 rcases s.a with⟨e,hs,hz⟩|⟨e,hs,z,hz,iv,e2⟩
 ·have hp:Ps n p:=fun k hk=>by
   have h1:=g.x k hk
   have h2:=hs k hk
   unfold dF at h1
   exact⟨(k-1).toNat,by omega,by omega⟩
  have h:=xj hn h2 hc p (Zr n) q.2 hp (cC n) hz
  rw[KI hn h2 hc]at h
  rw[h.1]
  unfold CO pZ Pa
  rw[e,if_pos (by decide),Int.add_zero]
 ·have hx:∀k∈p.reverse.map (fun k=> -k),dF n k:=fun k hk=>by
   obtain⟨x,hx,rfl⟩:=mem_map.mp hk
   have:=g.x x (by simpa using hx)
   unfold dF at*
   omega
  have hp:Ps n (p.reverse.map fun k=> -k):=fun k hk=>by
   have h1:=hx k hk
   obtain⟨x,hx,rfl⟩:=mem_map.mp hk
   have h2:=hs x (by simpa using hx)
   unfold dF at h1
   exact⟨(-x-1).toNat,by omega,by omega⟩
  have c1:=vG hn h2 p g.x hc
  have h:=xj hn h2 c1 (p.reverse.map fun k=> -k) (Zr n) z hp (cC n) hz
  rw[KI hn h2 c1,Bm hn h2 p g.x hc]at h
  have iz:=mV h.2
  have e3:mh n p ω=Ma n (Bl z) ω:=by
   have:=xg hn h2 c1 iz
   rw[<-h.1]at this
   exact this.symm
  rw[e3]
  have ez:Bl z=(z,ko (p.map qG) (upTo n)):=jz iz iv rfl
  have e4:Bl q.2=Li n (Bl z):=by
   rw[ez,e2]
   have ic:=oX (r:=(z,ko (p.map qG) (upTo n))) iv
   exact jz (mV (tU ic)) ic rfl
  unfold CO pZ Ma
  rw[e,e4,if_neg (by decide)]
theorem xm:∀{ps:List (List Int)}{qs:List (Int×List Int)}{ω:Int×List RP},F2 (Us n) ps qs->(∀p∈ps,Gp n p)->Cv n ω->qs.foldl (fun ω q=>CO n q ω) ω=mh n ps.flatten ω
 |_,_,_,.nil,_,_=>rfl
 |p::ps,q::qs,ω,.cons s f,h,hc=>by
  have g:=h p (by simp)
  rw[foldl_cons,flatten_cons,jg,Gr hn h2 g s hc]
  exact xm f (fun x hx=>h x (by simp[hx])) (vG hn h2 p g.x hc)
theorem Nm{g:Int}{L:List RP}(h:aW n L):aW n (pZ n g L):=by
 unfold pZ
 split
 ·exact h
 ·exact h.kq
theorem Nn{q:Int×List Int}(hq:q.1=0\/q.1= -1)(hr:bB n q.2)(h:Int){L:List RP}(hI:aW n L):Vl n (h+q.1) (pZ n q.1 L++[Bl q.2])=CO n q (Vl n h L):=by
 unfold CO pZ
 rcases hq with e|e
 ·rw[e,if_pos (by decide),if_pos (by decide),Int.add_zero,Int.add_zero]
  exact Kd hn h2 h hI (.one (mV hr))
 ·rw[e,if_neg (by decide),if_neg (by decide)]
  exact Kf hn h2 h hI (.one (mV hr)) (-1)
theorem Gs{q g:Int}{r:List Int}{L:List RP}(hI:aW n L)(hr:bB n r):pZ n g (pZ n q L++[Bl r])=pZ n (q+g) L++[Bl (jA n g r)]:=by
 unfold pZ jA
 have hf:(L.map (kq n)).map (kq n)=L:=by
  rw[map_map]
  conv=>rhs;rw[<-map_id L]
  exact map_congr_left fun x hx=>Et (hI x hx)
 have e:kq n (Bl r)=Bl (fl n r.reverse):=jz (tX (mV hr)) (mV (tU (tX (mV hr)))) rfl
 by_cases a:g%2=0
 ·rw[if_pos a,if_pos a]
  by_cases b:q%2=0
  ·rw[if_pos b,if_pos (by omega)]
  ·rw[if_neg b,if_neg (by omega)]
 ·rw[if_neg a,if_neg a,map_append]
  by_cases b:q%2=0
  ·rw[if_pos b,if_neg (by omega),List.map_singleton,e]
  ·rw[if_neg b,if_pos (by omega),hf,List.map_singleton,e]
theorem Bo:∀(qs:List (Int×List Int))(h:Int)(L:List RP),aW n L->(∀q∈qs,(q.1=0\/q.1= -1)/\bB n q.2)->Vl n (h+hS qs) (pZ n (hS qs) L++(dh n qs).map Bl)=qs.foldl (fun ω q=>CO n q ω) (Vl n h L)
 |[],h,L,_,_=>by
  show Vl n (h+0) (pZ n 0 L++[])=_
  rw[Int.add_zero,append_nil]
  rfl
 |q::qs,h,L,hI,hq=>by
  obtain⟨q1,q2⟩:=hq q (by simp)
  have ih:=Bo qs (h+q.1) (pZ n q.1 L++[Bl q.2]) ((Nm hn h2 hI).app (.one (mV q2))) fun x hx=>hq x (by simp[hx])
  rw[foldl_cons,<-Nn hn h2 q1 q2 h hI,<-ih,Gs hn h2 hI q2,List.append_assoc,show hS (q::qs)=q.1+hS qs from rfl,Int.add_assoc]
  rfl
theorem Np{k:Int}(hk:dF n k){s:List Int}(hs:∀x∈s,dF n x):Lk n (fO s k) (s++[k]):=by
 unfold fO
 split
 ·rename_i hl
  have hne:s≠[]:=fun z=>by rw[z]at hl;cases hl
  have xE:s.dropLast++[-k]=s:=by
   have:=List.dropLast_concat_getLast hne
   rw[List.getLast?_eq_some_getLast hne]at hl
   rw[Option.some.inj hl]at this
   exact this
  have hm:dF n (-k):=by unfold dF at*;omega
  have h:=Lk.mid hn h2 (KG hn h2 hm) (a:=s.dropLast) (b:=[]) fun x hx=>hs x ((List.dropLast_sublist s).subset hx)
  rw[Int.neg_neg,append_nil,append_nil,append_nil]at h
  have e:s++[k]=s.dropLast++[-k,k]:=by
   conv=>lhs;rw[<-xE]
   simp
  rw[e]
  exact h.symm
 ·exact .refl n _
theorem EH:∀(w s:List Int),(∀k∈w,dF n k)->(∀x∈s,dF n x)->Lk n (gy s w) (s++w)
 |[],s,_,_=>by rw[append_nil];exact .refl n _
 |k::w,s,h,hs=>by
  have hk:=h k (by simp)
  have hp:∀x∈fO s k,dF n x:=fun x hx=>by
   unfold fO at hx
   split at hx
   ·exact hs x ((List.dropLast_sublist s).subset hx)
   ·rcases mem_append.mp hx with hx|hx
    ·exact hs x hx
    ·rw[mem_singleton.mp hx];exact hk
  refine(EH w (fO s k) (fun x hx=>h x (by simp[hx])) hp).trans fun ω hc=>?_
  rw[jg,Np hn h2 hk hs ω hc,<-jg,List.append_assoc]
  rfl
theorem Gu{w:List Int}(hw:∀k∈w,dF n k)(hl:w.length<=40):gR [.int n,.lst (aK w)]=.ok (.tup [.int (mh n w (0,[])).1,.lst ((mh n w (0,[])).2.map fun p=>.lst (aK p.1))])/\Ut n w (mh n w (0,[])).1 (mh n w (0,[])).2:=by
 obtain⟨h,R,e,F,qs,jn,e1,e2,e3,e4,e5⟩:=EF (n:=n) (by omega) hn hw hl
 have r:=Bo hn h2 qs 0 [] (fun x hx=>nomatch hx) e2
 have ez:pZ n (hS qs) []=[]:=by unfold pZ;split<;>rfl
 rw[ez,nil_append,Int.zero_add,<-e1]at r
 have c0:Vl n 0 []=((0:Int),[]):=vH.id
 rw[c0,xm hn h2 e5 e4 vH,e3,EH hn h2 w [] hw (fun x hx=>nomatch hx) _ vH,nil_append]at r
 rw[<-r]
 exact⟨e,F⟩
end
theorem pN:((("out":Str))==(("out":Str)))=true:=by decide
theorem r6:((("out":Str))==(("in":Str)))=false:=by decide
theorem pO:((("out":Str))==(("far":Str)))=false:=by decide
theorem mW:((("out":Str))==(("near":Str)))=false:=by decide
theorem r9:((("in":Str))==(("out":Str)))=false:=by decide
theorem vI:((("in":Str))==(("in":Str)))=true:=by decide
theorem se:((("in":Str))==(("far":Str)))=false:=by decide
theorem pP:((("in":Str))==(("near":Str)))=false:=by decide
theorem pQ:((("far":Str))==(("out":Str)))=false:=by decide
theorem si:((("far":Str))==(("in":Str)))=false:=by decide
theorem pR:((("far":Str))==(("far":Str)))=true:=by decide
theorem mX:((("far":Str))==(("near":Str)))=false:=by decide
theorem mY:((("near":Str))==(("out":Str)))=false:=by decide
theorem pS:((("near":Str))==(("in":Str)))=false:=by decide
theorem mZ:((("near":Str))==(("far":Str)))=false:=by decide
theorem k9:((("near":Str))==(("near":Str)))=true:=by decide
def gI(w:List Int)(i:Int):Int:=(w[i.toNat]?).getD 0
theorem EI{w:List Int}{i:Int}(h:0<=i)(h2:i<(w.length:Int)):ig (aK w) i=some (.int (gI w i)):=by
 rw[qW,vh h]
 unfold gI
 rw[getElem?_eq_getElem (by omega)]
 rfl
theorem j7{w:List Int}{i:Int}(h:0<=i)(h2:i<(w.length:Int)):gI w i∈w:=by
 unfold gI
 rw[getElem?_eq_getElem (by omega)]
 exact getElem_mem _
def j8(k:Int):Int:=if k<0 then-k else k
inductive Mv where
 |out (p:Int)|GV (p k:Int)|far (p:Int)|near (p:Int)
def Mv.d:Mv->D
 |.out p=>.tup [.str "out",.int p]
 |.GV p k=>.tup [.str "in",.int p,.int k]
 |.far p=>.tup [.str "far",.int p]
 |.near p=>.tup [.str "near",.int p]
def uP(w:List Int)(p m:Int):Bool:=decide (0<=p)&&decide (p+m<=(w.length:Int))
def j9(n:Int)(w:List Int):Mv->Bool
 |.out p=>uP w p 2&&(gI w p== -gI w (p+1))
 |.GV p k=>uP w p 0&&(!(k==0)&&decide (j8 k<n))
 |.far p=>uP w p 2&&decide (2<=j8 (j8 (gI w p)-j8 (gI w (p+1))))
 |.near p=>uP w p 3&&(gI w p==gI w (p+2))&&(j8 (gI w p-gI w (p+1))==1)
def doneF(w:List Int):Mv->List Int
 |.out p=>w.take p.toNat++w.drop (p+2).toNat
 |.GV p k=>w.take p.toNat++[k,-k]++w.drop p.toNat
 |.far p=>w.take p.toNat++[gI w (p+1),gI w p]++w.drop (p+2).toNat
 |.near p=>w.take p.toNat++[gI w (p+1),gI w p,gI w (p+1)]++w.drop (p+3).toNat
theorem EJ{w:List Int}{p m:Int}(h:uP w p m=true):0<=p/\p+m<=(w.length:Int):=by
 unfold uP at h
 simpa using h
theorem EK(a b:D):ig [a,b] 0=some a:=rfl
theorem EL(a b:D):ig [a,b] 1=some b:=rfl
theorem EO(a b c:D):ig [a,b,c] 0=some a:=rfl
theorem ER(a b c:D):ig [a,b,c] 1=some b:=rfl
theorem ES(a b c:D):ig [a,b,c] 2=some c:=rfl
theorem zH{n:Int}{w:List Int}{d:Mv}(h:j9 n w d=true):(match d with
  |.out p=>0<=p/\p+2<=(w.length:Int)
  |.GV p _=>0<=p/\p<=(w.length:Int)
  |.far p=>0<=p/\p+2<=(w.length:Int)
  |.near p=>0<=p/\p+3<=(w.length:Int)):=by
 cases d with
 |out p=>
  simp -implicitDefEqProofs only [j9,and_eq_true]at h
  exact EJ h.1
 |GV p k=>
  simp -implicitDefEqProofs only [j9,and_eq_true]at h
  have:=EJ h.1
  dsimp only;omega
 |far p=>
  simp -implicitDefEqProofs only [j9,and_eq_true]at h
  exact EJ h.1
 |near p=>
  simp -implicitDefEqProofs only [j9,and_eq_true]at h
  exact EJ h.1.1
theorem ET(a b:Int):[D.int a,D.int b]=aK [a,b]:=rfl
theorem Gv(a b c:Int):[D.int a,D.int b,D.int c]=aK [a,b,c]:=rfl
theorem Nq(n:Int)(w:List Int)(d:Mv)(hw:w.length<=1000)(h:j9 n w d=true):i9 [.lst (aK w),d.d]=.ok (aK (doneF w d)):=by
 have hp:=zH h
 unfold i9 uq
 simp -implicitDefEqProofs only [mS,mD,mF,gm,aP,reduceAdd,reduceSub,reduceEqDiff,reduceIte,ah,aj,aG,aH,aI,aJ]
 cases d with
 |out p=>
  dsimp only at hp
  simp -implicitDefEqProofs only [Mv.d,reduceIte,ah,aj,aG,aH,aI,aJ,EK,EL,EO,ER,ES,pN,r6,pO,mW,r9,vI,se,pP,pQ,si,pR,mX,mY,pS,mZ,k9,jE]
  rw[qw _ _ hp.1,nY _ _ (by omega),iQ,b7 (by rw[length_append,length_take,length_drop];omega)]
  simp -implicitDefEqProofs only [reduceIte,ah,aj,aG,aH,aI,aJ,gK]
  rfl
 |GV p k=>
  dsimp only at hp
  simp -implicitDefEqProofs only [Mv.d,reduceIte,ah,aj,aG,aH,aI,aJ,EK,EL,EO,ER,ES,pN,r6,pO,mW,r9,vI,se,pP,pQ,si,pR,mX,mY,pS,mZ,k9,jE]
  rw[qw _ _ hp.1,nY _ _ hp.1,ET k (-k),iQ,b7 (by rw[length_append,length_take];simp;omega)]
  simp -implicitDefEqProofs only [reduceIte,ah,aj,aG,aH,aI,aJ,iQ]
  rw[b7 (by rw[length_append,length_append,length_take,length_drop];simp;omega)]
  simp -implicitDefEqProofs only [reduceIte,ah,aj,aG,aH,aI,aJ,gK]
  rfl
 |far p=>
  dsimp only at hp
  simp -implicitDefEqProofs only [Mv.d,reduceIte,ah,aj,aG,aH,aI,aJ,EK,EL,EO,ER,ES,pN,r6,pO,mW,r9,vI,se,pP,pQ,si,pR,mX,mY,pS,mZ,k9,jE]
  rw[EI (by omega) (by omega)]
  simp -implicitDefEqProofs only [reduceIte,ah,aj,aG,aH,aI,aJ]
  rw[EI (by omega) (by omega)]
  simp -implicitDefEqProofs only [reduceIte,ah,aj,aG,aH,aI,aJ]
  rw[qw _ _ hp.1,nY _ _ (by omega),ET (gI w (p+1)) (gI w p),iQ,b7 (by rw[length_append,length_take];simp;omega)]
  simp -implicitDefEqProofs only [reduceIte,ah,aj,aG,aH,aI,aJ,iQ]
  rw[b7 (by rw[length_append,length_append,length_take,length_drop];simp;omega)]
  simp -implicitDefEqProofs only [reduceIte,ah,aj,aG,aH,aI,aJ,gK]
  rfl
 |near p=>
  dsimp only at hp
  simp -implicitDefEqProofs only [Mv.d,reduceIte,ah,aj,aG,aH,aI,aJ,EK,EL,EO,ER,ES,pN,r6,pO,mW,r9,vI,se,pP,pQ,si,pR,mX,mY,pS,mZ,k9,jE]
  rw[EI (by omega) (by omega)]
  simp -implicitDefEqProofs only [reduceIte,ah,aj,aG,aH,aI,aJ]
  rw[EI (by omega) (by omega)]
  simp -implicitDefEqProofs only [reduceIte,ah,aj,aG,aH,aI,aJ]
  rw[qw _ _ hp.1,nY _ _ (by omega),Gv (gI w (p+1)) (gI w p) (gI w (p+1)),iQ,b7 (by rw[length_append,length_take];simp;omega)]
  simp -implicitDefEqProofs only [reduceIte,ah,aj,aG,aH,aI,aJ,iQ]
  rw[b7 (by rw[length_append,length_append,length_take,length_drop];simp;omega)]
  simp -implicitDefEqProofs only [reduceIte,ah,aj,aG,aH,aI,aJ,gK]
  rfl
theorem zI{t:R Bool}{b:Bool}{a:R Out}{e:DE}{k:DE->R Out}(h:t=.ok b):aV (R.bind t fun v=>if v=true then a else .ok (.nx e)) k=if b=true then aV a k else k e:=by
 subst h
 cases b<;>rfl
theorem sj{n:Int}{w:List Int}{d:Mv}(h:j9 n w d=true):(doneF w d).length<=w.length+2/\((∀p k,d≠.GV p k)->(doneF w d).length<=w.length):=by
 have hp:=zH h
 cases d with
 |out p=>
  dsimp only at hp
  refine⟨?_,fun _=>?_⟩<;>(show(w.take p.toNat++w.drop (p+2).toNat).length<=_;rw[length_append,length_take,length_drop];omega)
 |GV p k=>
  dsimp only at hp
  refine⟨?_,fun hq=>absurd rfl (hq p k)⟩
  show(w.take p.toNat++[k,-k]++w.drop p.toNat).length<=_
  rw[length_append,length_append,length_take,length_drop];simp;omega
 |far p=>
  dsimp only at hp
  refine⟨?_,fun _=>?_⟩<;>(show(w.take p.toNat++[gI w (p+1),gI w p]++w.drop (p+2).toNat).length<=_;rw[length_append,length_append,length_take,length_drop];simp;omega)
 |near p=>
  dsimp only at hp
  refine⟨?_,fun _=>?_⟩<;>(show(w.take p.toNat++[gI w (p+1),gI w p,gI w (p+1)]++w.drop (p+3).toNat).length<=_;rw[length_append,length_append,length_take,length_drop];simp;omega)
theorem EU{n k:Int}(h1:(k==0)=false)(h2:j8 k<n):dF n k:=by
 unfold j8 at h2
 unfold dF
 have:k≠0:=by simpa using h1
 split at h2<;>omega
theorem Nr{n k:Int}(h:dF n k):dF n (-k):=by unfold dF at*;omega
theorem Nt{n:Int}{w:List Int}{d:Mv}(hw:∀k∈w,dF n k)(h:j9 n w d=true):∀k∈doneF w d,dF n k:=by
 have hp:=zH h
 cases d with
 |out p=>
  intro k hk
  rcases mem_append.mp (show k∈w.take p.toNat++w.drop (p+2).toNat from hk)with q|q
  ·exact hw k (mem_of_mem_take q)
  ·exact hw k (mem_of_mem_drop q)
 |GV p x=>
  intro k hk
  have hx:dF n x:=by
   simp -implicitDefEqProofs only [j9,and_eq_true,not_eq_true',decide_eq_true_eq]at h
   exact EU h.2.1 h.2.2
  rcases mem_append.mp (show k∈w.take p.toNat++[x,-x]++w.drop p.toNat from hk)with q|q
  ·rcases mem_append.mp q with q|q
   ·exact hw k (mem_of_mem_take q)
   ·simp at q
    rcases q with rfl|rfl
    ·exact hx
    ·exact Nr hx
  ·exact hw k (mem_of_mem_drop q)
 |far p=>
  dsimp only at hp
  intro k hk
  rcases mem_append.mp (show k∈w.take p.toNat++[gI w (p+1),gI w p]++w.drop (p+2).toNat from hk)with q|q
  ·rcases mem_append.mp q with q|q
   ·exact hw k (mem_of_mem_take q)
   ·simp at q
    rcases q with rfl|rfl
    ·exact hw _ (j7 (by omega) (by omega))
    ·exact hw _ (j7 (by omega) (by omega))
  ·exact hw k (mem_of_mem_drop q)
 |near p=>
  dsimp only at hp
  intro k hk
  rcases mem_append.mp (show k∈w.take p.toNat++[gI w (p+1),gI w p,gI w (p+1)]++w.drop (p+3).toNat from hk)with q|q
  ·rcases mem_append.mp q with q|q
   ·exact hw k (mem_of_mem_take q)
   ·simp at q
    rcases q with rfl|rfl|rfl
    ·exact hw _ (j7 (by omega) (by omega))
    ·exact hw _ (j7 (by omega) (by omega))
    ·exact hw _ (j7 (by omega) (by omega))
  ·exact hw k (mem_of_mem_drop q)
theorem m7{w:List Int}{p i:Int}(hp:0<=p)(hi:0<=i/\i<3)(hl:p+i<(w.length:Int)):ig (aK ((w.drop p.toNat).take 3)) i=some (.int (gI w (p+i))):=by
 rw[qW,vh hi.1]
 unfold gI
 rw[List.getElem?_take,if_pos (by omega),List.getElem?_drop,show p.toNat+i.toNat=(p+i).toNat by omega,getElem?_eq_getElem (by omega)]
 rfl
theorem Nu(w:List Int)(n z room:Int)(hw:∀k∈w,dF n k)(hn:1<=n/\n<=7)(hz:0<=z)(hl:w.length<=1000):∃o:Option Mv,ja [.lst (aK w),.int n,.int z,.int room]=.ok (match o with
  |some d=>d.d
  |none=>.non)/\∀d,o=some d->j9 n w d=true/\((doneF w d).length<=w.length\/((doneF w d).length:Int)<=room):=by
 unfold ja ur
 simp -implicitDefEqProofs only [mS,mD,mF,gm,aP,reduceAdd,reduceSub,reduceEqDiff,reduceIte,ah,aj,aG,aH,aI,aJ,bc]
 rw[gJ z _ (by omega)]
 simp -implicitDefEqProofs only [reduceIte,ah,aj,aG,aH,aI,aJ]
 generalize hp:z%((w.length:Int)+1)=p
 have p0:0<=p:=by rw[<-hp];exact emod_nonneg _ (by omega)
 have p1:p<(w.length:Int)+1:=by rw[<-hp];exact emod_lt_of_pos _ (by omega)
 rw[jE,Ri _ _ _ p0 (by omega),show(p+3).toNat-p.toNat=3 by omega]
 have hhl:(((w.drop p.toNat).take 3).length:Int)=if(w.length:Int)-p<3 then(w.length:Int)-p else 3:=by
  rw[length_take,length_drop]
  split<;>omega
 have m1:∀i:Int,0<=i->i<(w.length:Int)-> -(2^64)<gI w i/\gI w i<2^64:=fun i h1 h2=>by
  have:=hw _ (j7 h1 h2)
  unfold dF at this
  omega
 have l1:(1:Int)<(((w.drop p.toNat).take 3).length:Int)↔p+2<=(w.length:Int):=by rw[hhl];split<;>omega
 have l2:(2:Int)<(((w.drop p.toNat).take 3).length:Int)↔p+3<=(w.length:Int):=by rw[hhl];split<;>omega
 rw[zI (b:=uP w p 2&&(gI w p== -gI w (p+1))&&decide (0<z/128%3))]
 rotate_left
 ·simp -implicitDefEqProofs only [bc,reduceIte,ah,aj,aG,aH,aI,aJ]
  by_cases h:p+2<=(w.length:Int)
  ·have hb:uP w p 2=true:=by unfold uP;simp[p0,h]
   simp -implicitDefEqProofs only [l1.mpr h,decide_true,reduceIte,ah,aj,aG,aH,aI,aJ,hb,Bool.true_and]
   rw[m7 p0 (by omega) (by omega)]
   simp -implicitDefEqProofs only [reduceIte,ah,aj,aG,aH,aI,aJ,Int.add_zero]
   rw[m7 p0 (by omega) (by omega)]
   simp -implicitDefEqProofs only [reduceIte,ah,aj,aG,aH,aI,aJ]
   cases hq:(gI w p== -gI w (p+1))with
   |false=>simp -implicitDefEqProofs only [reduceIte,ah,aj,aG,aH,aI,aJ,Bool.false_and]
   |true=>
    simp -implicitDefEqProofs only [reduceIte,ah,aj,aG,aH,aI,aJ,Bool.true_and]
    rw[nW z 128 (by decide)]
    simp -implicitDefEqProofs only [reduceIte,ah,aj,aG,aH,aI,aJ]
    rw[gJ _ 3 (by decide)]
    simp -implicitDefEqProofs only [reduceIte,ah,aj,aG,aH,aI,aJ]
  ·have hb:uP w p 2=false:=by unfold uP;simp[h]
   have:¬(1:Int)<(((w.drop p.toNat).take 3).length:Int):=fun q=>h (l1.mp q)
   simp -implicitDefEqProofs only [this,decide_false,reduceIte,ah,aj,aG,aH,aI,aJ,hb,Bool.false_and]
 simp -implicitDefEqProofs only [reduceIte,ah,aj,aG,aH,aI,aJ]
 rw[zI (b:=uP w p 2&&decide (1<j8 (j8 (gI w p)-j8 (gI w (p+1))))&&decide (0<z/128%5))]
 rotate_left
 ·simp -implicitDefEqProofs only [bc,reduceIte,ah,aj,aG,aH,aI,aJ]
  by_cases h:p+2<=(w.length:Int)
  ·have hb:uP w p 2=true:=by unfold uP;simp[p0,h]
   simp -implicitDefEqProofs only [l1.mpr h,decide_true,reduceIte,ah,aj,aG,aH,aI,aJ,hb,Bool.true_and]
   rw[m7 p0 (by omega) (by omega)]
   simp -implicitDefEqProofs only [reduceIte,ah,aj,aG,aH,aI,aJ,Int.add_zero]
   rw[m7 p0 (by omega) (by omega)]
   simp -implicitDefEqProofs only [reduceIte,ah,aj,aG,aH,aI,aJ]
   by_cases hq:1<j8 (j8 (gI w p)-j8 (gI w (p+1)))
   ·have BO:=hq
    unfold j8 at BO
    simp -implicitDefEqProofs only [hq,BO,decide_true,reduceIte,ah,aj,aG,aH,aI,aJ,Bool.true_and]
    rw[nW z 128 (by decide)]
    simp -implicitDefEqProofs only [reduceIte,ah,aj,aG,aH,aI,aJ]
    rw[gJ _ 5 (by decide)]
    simp -implicitDefEqProofs only [reduceIte,ah,aj,aG,aH,aI,aJ]
   ·have BO:=hq
    unfold j8 at BO
    simp -implicitDefEqProofs only [hq,BO,decide_false,reduceIte,ah,aj,aG,aH,aI,aJ,Bool.false_and]
  ·have hb:uP w p 2=false:=by unfold uP;simp[h]
   have:¬(1:Int)<(((w.drop p.toNat).take 3).length:Int):=fun q=>h (l1.mp q)
   simp -implicitDefEqProofs only [this,decide_false,reduceIte,ah,aj,aG,aH,aI,aJ,hb,Bool.false_and]
 simp -implicitDefEqProofs only [reduceIte,ah,aj,aG,aH,aI,aJ]
 rw[zI (b:=uP w p 3&&(gI w p==gI w (p+2))&&decide (0<gI w p*gI w (p+1))&&(j8 (gI w p-gI w (p+1))==1))]
 rotate_left
 ·simp -implicitDefEqProofs only [bc,reduceIte,ah,aj,aG,aH,aI,aJ]
  by_cases h:p+3<=(w.length:Int)
  ·have hb:uP w p 3=true:=by unfold uP;simp[p0,h]
   simp -implicitDefEqProofs only [l2.mpr h,decide_true,reduceIte,ah,aj,aG,aH,aI,aJ,hb,Bool.true_and]
   rw[m7 p0 (by omega) (by omega)]
   simp -implicitDefEqProofs only [reduceIte,ah,aj,aG,aH,aI,aJ,Int.add_zero]
   rw[m7 p0 (by omega) (by omega)]
   simp -implicitDefEqProofs only [reduceIte,ah,aj,aG,aH,aI,aJ]
   cases hq:(gI w p==gI w (p+2))with
   |false=>simp -implicitDefEqProofs only [reduceIte,ah,aj,aG,aH,aI,aJ,Bool.false_and]
   |true=>
    simp -implicitDefEqProofs only [reduceIte,ah,aj,aG,aH,aI,aJ,Bool.true_and]
    rw[m7 p0 (by omega) (by omega)]
    simp -implicitDefEqProofs only [reduceIte,ah,aj,aG,aH,aI,aJ]
    rw[y9 _ _ (.inl (m1 p p0 (by omega)))]
    simp -implicitDefEqProofs only [reduceIte,ah,aj,aG,aH,aI,aJ]
    by_cases hm:0<gI w p*gI w (p+1)
    ·simp -implicitDefEqProofs only [hm,decide_true,reduceIte,ah,aj,aG,aH,aI,aJ,Bool.true_and]
     rfl
    ·simp -implicitDefEqProofs only [hm,decide_false,reduceIte,ah,aj,aG,aH,aI,aJ,Bool.false_and]
  ·have hb:uP w p 3=false:=by unfold uP;simp[h]
   have:¬(2:Int)<(((w.drop p.toNat).take 3).length:Int):=fun q=>h (l2.mp q)
   simp -implicitDefEqProofs only [this,decide_false,reduceIte,ah,aj,aG,aH,aI,aJ,hb,Bool.false_and]
 simp -implicitDefEqProofs only [reduceIte,ah,aj,aG,aH,aI,aJ]
 rw[zI (b:=decide (1<n)&&decide ((w.length:Int)+2<=room))]
 rotate_left
 ·simp -implicitDefEqProofs only [bc,reduceIte,ah,aj,aG,aH,aI,aJ]
  by_cases h:1<n
  ·simp -implicitDefEqProofs only [h,decide_true,reduceIte,ah,aj,aG,aH,aI,aJ,Bool.true_and,bc]
  ·simp -implicitDefEqProofs only [h,decide_false,reduceIte,ah,aj,aG,aH,aI,aJ,Bool.false_and]
 cases c1:(uP w p 2&&(gI w p== -gI w (p+1))&&decide (0<z/128%3))with
 |true=>
  simp -implicitDefEqProofs only [and_eq_true]at c1
  simp -implicitDefEqProofs only [reduceIte,ah,aj,aG,aH,aI,aJ]
  refine⟨some (.out p),rfl,fun d hd=>?_⟩
  cases hd
  have hc:j9 n w (.out p)=true:=by simp -implicitDefEqProofs only [j9,and_eq_true];exact c1.1
  exact⟨hc,.inl ((sj hc).2 fun _ _ q=>by cases q)⟩
 |false=>
  simp -implicitDefEqProofs only [reduceIte,ah,aj,aG,aH,aI,aJ]
  cases c2:(uP w p 2&&decide (1<j8 (j8 (gI w p)-j8 (gI w (p+1))))&&decide (0<z/128%5))with
  |true=>
   simp -implicitDefEqProofs only [and_eq_true,decide_eq_true_eq]at c2
   simp -implicitDefEqProofs only [reduceIte,ah,aj,aG,aH,aI,aJ]
   refine⟨some (.far p),rfl,fun d hd=>?_⟩
   cases hd
   have hc:j9 n w (.far p)=true:=by simp -implicitDefEqProofs only [j9,and_eq_true,decide_eq_true_eq];exact⟨c2.1.1,by omega⟩
   exact⟨hc,.inl ((sj hc).2 fun _ _ q=>by cases q)⟩
  |false=>
   simp -implicitDefEqProofs only [reduceIte,ah,aj,aG,aH,aI,aJ]
   cases c3:(uP w p 3&&(gI w p==gI w (p+2))&&decide (0<gI w p*gI w (p+1))&&(j8 (gI w p-gI w (p+1))==1))with
   |true=>
    simp -implicitDefEqProofs only [and_eq_true,decide_eq_true_eq]at c3
    simp -implicitDefEqProofs only [reduceIte,ah,aj,aG,aH,aI,aJ]
    refine⟨some (.near p),rfl,fun d hd=>?_⟩
    cases hd
    have hc:j9 n w (.near p)=true:=by simp -implicitDefEqProofs only [j9,and_eq_true];exact⟨c3.1.1,c3.2⟩
    exact⟨hc,.inl ((sj hc).2 fun _ _ q=>by cases q)⟩
   |false=>
    simp -implicitDefEqProofs only [reduceIte,ah,aj,aG,aH,aI,aJ]
    cases c4:(decide (1<n)&&decide ((w.length:Int)+2<=room))with
    |true=>
     simp -implicitDefEqProofs only [and_eq_true,decide_eq_true_eq]at c4
     simp -implicitDefEqProofs only [reduceIte,ah,aj,aG,aH,aI,aJ]
     rw[nW z 1024 (by decide)]
     simp -implicitDefEqProofs only [reduceIte,ah,aj,aG,aH,aI,aJ]
     rw[wq _ n (by omega)]
     simp -implicitDefEqProofs only [reduceIte,ah,aj,aG,aH,aI,aJ]
     refine⟨some (.GV p (dw (z/1024) n)),rfl,fun d hd=>?_⟩
     cases hd
     have hx:=wu (z/1024) n (by omega)
     have hc:j9 n w (.GV p (dw (z/1024) n))=true:=by
      simp -implicitDefEqProofs only [j9,and_eq_true,not_eq_true',decide_eq_true_eq]
      refine⟨by unfold uP;simp[p0];omega,?_,?_⟩
      ·exact beq_false_of_ne hx.1
      ·unfold j8 dF at*;split<;>omega
     refine⟨hc,.inr ?_⟩
     have:=(sj hc).1
     omega
    |false=>
     simp -implicitDefEqProofs only [reduceIte,ah,aj,aG,aH,aI,aJ]
     exact⟨none,rfl,fun d hd=>by cases hd⟩
theorem EV{n:Nat}{k:Int}(h:dF n k):1<=k.natAbs/\k.natAbs<n:=by
 unfold dF at h
 omega
def xY(n:Nat)(u v:List Int):Prop:=n<=7->2<=n->Lk n u v
theorem xY.symm {n:Nat}{u v:List Int}(h:xY n u v):xY n v u:=fun a b=>(h a b).symm
theorem xY.refl (n:Nat)(u:List Int):xY n u u:=fun _ _=>Lk.refl n u
theorem xY.trans {n:Nat}{u v w:List Int}(h:xY n u v)(g:xY n v w):xY n u w:=fun a b=>(h a b).trans (g a b)
theorem xY.mid {n:Nat}{u v:List Int}(h:xY n u v){a:List Int}(ha:∀k∈a,dF n k)(b:List Int):xY n (a++u++b) (a++v++b):=fun x y=>Lk.mid x y (h x y) ha
theorem EY{n:Nat}{k:Int}(hk:dF n k):xY n [k,-k] []:=fun a b=>KG a b hk
theorem Nv{n:Nat}{k l:Int}(hk:dF n k)(hl:dF n l)(h:k.natAbs+2<=l.natAbs\/l.natAbs+2<=k.natAbs):xY n [k,l] [l,k]:=fun a b=>Tz a b hk hl h
theorem yK{n:Nat}{k l:Int}{a:Nat}(ha:k.natAbs=a+1)(hb:l.natAbs=a+2)(hn:a+2<n)(hs:(0<k)=(0<l)):xY n [k,l,k] [l,k,l]:=fun x y=>KH x y ha hb hn hs
theorem KJ{n:Nat}{k l:Int}(hk:dF n k)(hl:dF n l)(h:k-l=1\/l-k=1):xY n [k,l,k] [l,k,l]:=by
 have k1:=EV hk
 have l1:=EV hl
 unfold dF at hk hl
 have hs:(0<k)=(0<l):=by apply propext;omega
 by_cases q:k.natAbs<l.natAbs
 ·exact yK (a:=k.natAbs-1) (by omega) (by omega) (by omega) hs
 ·exact(yK (a:=l.natAbs-1) (by omega) (by omega) (by omega) hs.symm).symm
theorem KN{w:List Int}{p:Int}(h0:0<=p)(h:p+2<=(w.length:Int)):w=w.take p.toNat++[gI w p,gI w (p+1)]++w.drop (p+2).toNat:=by
 obtain⟨m,rfl⟩:∃m:Nat,p=m:=⟨p.toNat,by omega⟩
 have e1:gI w m=w[m]'(by omega):=by unfold gI;rw[toNat_natCast,getElem?_eq_getElem (by omega)];rfl
 have e2:gI w ((m:Int)+1)=w[m+1]'(by omega):=by unfold gI;rw[show((m:Int)+1).toNat=m+1 by omega,getElem?_eq_getElem (by omega)];rfl
 rw[e1,e2,toNat_natCast,show((m:Int)+2).toNat=m+1+1 by omega,List.append_assoc]
 show w=w.take m++(w[m]::w[m+1]::w.drop (m+1+1))
 rw[<-drop_eq_getElem_cons (show m+1<w.length by omega),<-drop_eq_getElem_cons (show m<w.length by omega),List.take_append_drop]
theorem TF{w:List Int}{p:Int}(h0:0<=p)(h:p+3<=(w.length:Int)):w=w.take p.toNat++[gI w p,gI w (p+1),gI w (p+2)]++w.drop (p+3).toNat:=by
 obtain⟨m,rfl⟩:∃m:Nat,p=m:=⟨p.toNat,by omega⟩
 have e1:gI w m=w[m]'(by omega):=by unfold gI;rw[toNat_natCast,getElem?_eq_getElem (by omega)];rfl
 have e2:gI w ((m:Int)+1)=w[m+1]'(by omega):=by unfold gI;rw[show((m:Int)+1).toNat=m+1 by omega,getElem?_eq_getElem (by omega)];rfl
 have e3:gI w ((m:Int)+2)=w[m+1+1]'(by omega):=by unfold gI;rw[show((m:Int)+2).toNat=m+1+1 by omega,getElem?_eq_getElem (by omega)];rfl
 rw[e1,e2,e3,toNat_natCast,show((m:Int)+3).toNat=m+1+1+1 by omega,List.append_assoc]
 show w=w.take m++(w[m]::w[m+1]::w[m+1+1]::w.drop (m+1+1+1))
 rw[<-drop_eq_getElem_cons (show m+1+1<w.length by omega),<-drop_eq_getElem_cons (show m+1<w.length by omega),<-drop_eq_getElem_cons (show m<w.length by omega),List.take_append_drop]
theorem Nx{n:Nat}{w:List Int}{d:Mv}(hw:∀k∈w,dF n k)(h:j9 n w d=true):xY n w (doneF w d):=by
 have hp:=zH h
 have ht:∀q:Nat,∀k∈w.take q,dF n k:=fun q k hk=>hw k (mem_of_mem_take hk)
 cases d with
 |out p=>
  dsimp only at hp
  simp -implicitDefEqProofs only [j9,and_eq_true,beq_iff_eq]at h
  have e:=KN hp.1 hp.2
  have hx:=hw _ (j7 hp.1 (show p<(w.length:Int)by omega))
  have e2:gI w (p+1)= -gI w p:=by omega
  rw[e2]at e
  have:=(EY hx).mid (ht p.toNat) (w.drop (p+2).toNat)
  rw[<-e,append_nil]at this
  exact this
 |GV p k=>
  dsimp only at hp
  simp -implicitDefEqProofs only [j9,and_eq_true,not_eq_true',decide_eq_true_eq]at h
  have hx:=EU h.2.1 h.2.2
  have:=((EY hx).mid (ht p.toNat) (w.drop p.toNat)).symm
  rw[append_nil,List.take_append_drop]at this
  exact this
 |far p=>
  dsimp only at hp
  simp -implicitDefEqProofs only [j9,and_eq_true,decide_eq_true_eq]at h
  have e:=KN hp.1 hp.2
  have hx:=hw _ (j7 hp.1 (show p<(w.length:Int)by omega))
  have hy:=hw _ (j7 (show 0<=p+1 by omega) (show p+1<(w.length:Int)by omega))
  have hq:=h.2
  have:=(Nv hx hy (by unfold j8 at hq;repeat' split at hq<;>omega)).mid (ht p.toNat) (w.drop (p+2).toNat)
  rw[<-e]at this
  exact this
 |near p=>
  dsimp only at hp
  simp -implicitDefEqProofs only [j9,and_eq_true,beq_iff_eq]at h
  have e:=TF hp.1 hp.2
  have hx:=hw _ (j7 hp.1 (show p<(w.length:Int)by omega))
  have hy:=hw _ (j7 (show 0<=p+1 by omega) (show p+1<(w.length:Int)by omega))
  have hq:=h.2
  rw[<-h.1.2]at e
  have:=(KJ hx hy (by unfold j8 at hq;repeat' split at hq<;>omega)).mid (ht p.toNat) (w.drop (p+3).toNat)
  rw[<-e]at this
  exact this
def m8(R:List (List Int)):List D:=R.map fun r=>.lst (aK r)
theorem yL(n:Nat):∀(a b:List (List Int)),a.length=b.length->nK (pe (n+1)) (m8 a) (m8 b)=some (decide (a=b))
 |[],[],_=>rfl
 |[],_::_,h=>by simp at h
 |_::_,[],h=>by simp at h
 |x::a,y::b,h=>by
  have ih:=yL n a b (by simpa using h)
  show(pe (n+1) (.lst (aK x)) (.lst (aK y))).bind _=_
  rw[nX]
  show(nK (pe (n+1)) (m8 a) (m8 b)).map (decide (x=y)&&·)=_
  rw[ih]
  show some (decide (x=y)&&decide (a=b))=some (decide (x::a=y::b))
  congr 1
  rw[Bool.eq_iff_iff]
  simp
theorem KO(n:Nat)(a b:List (List Int)):pe (n+2) (.lst (m8 a)) (.lst (m8 b))=some (decide (a=b)):=by
 show(if(m8 a).length=(m8 b).length then nK (pe (n+1)) (m8 a) (m8 b)else some false)=_
 split
 ·rename_i h
  exact yL n a b (by simpa[m8]using h)
 ·rename_i h
  congr 1
  symm
  rw[decide_eq_false_iff_not]
  rintro rfl
  exact h rfl
def EZ(ω:Int×List RP):D:=.tup [.int ω.1,.lst (m8 (ω.2.map (·.1)))]
theorem CP(h:Int)(R:List RP):D.tup [.int h,.lst (R.map fun p=>.lst (aK p.1))]=EZ (h,R):=by
 unfold EZ m8
 rw[map_map]
 rfl
theorem E3(ω ω':Int×List RP):pe 6 (EZ ω) (EZ ω')=some (ω.1==ω'.1&&decide (ω.2.map (·.1)=ω'.2.map (·.1))):=by
 unfold EZ
 show(((pe 5 (.int ω.1) (.int ω'.1)).bind fun b=>(nK (pe 5) [.lst (m8 (ω.2.map (·.1)))] [.lst (m8 (ω'.2.map (·.1)))]).map (b&&·)).map (·&&([D.int ω.1,.lst (m8 (ω.2.map (·.1)))].length==[D.int ω'.1,.lst (m8 (ω'.2.map (·.1)))].length)))=_
 show((((pe 5 (.lst (m8 (ω.2.map (·.1)))) (.lst (m8 (ω'.2.map (·.1))))).bind fun b=>(some true).map (b&&·)).map ((ω.1==ω'.1)&&·)).map (·&&true))=_
 rw[KO 3]
 simp
theorem E4(ω ω':Int×List RP):uk (EZ ω) (EZ ω')=some (.bl (ω.1==ω'.1&&decide (ω.2.map (·.1)=ω'.2.map (·.1)))):=by unfold uk;rw[E3];rfl
theorem Ny(ω ω':Int×List RP):y7 (EZ ω) (EZ ω')=some (.bl (!(ω.1==ω'.1&&decide (ω.2.map (·.1)=ω'.2.map (·.1))))):=by unfold y7;rw[E3];rfl
theorem Nz(a b:List Int):y7 (.tup [.lst (aK a),.lst (aK b)]) (.tup [.lst (aK a),.lst (aK b)])=some (.bl false):=by
 unfold y7
 show((((pe 5 (.lst (aK a)) (.lst (aK a))).bind fun c=>((pe 5 (.lst (aK b)) (.lst (aK b))).bind fun d=>(some true).map (d&&·)).map (c&&·)).map (·&&true)).map fun b=>D.bl (!b))=_
 rw[nX,nX]
 simp
theorem CQ{n:Nat}(w cs:List Int)(rm:Nat)(hn:1<=n/\n<=7)(hw:∀k∈w,dF n k)(hr:rm<=900)(hl:w.length<=rm)(hc:cs.length<=1000):∃w',fg [.lst (aK w),.int n,.lst (aK cs),.int rm]=.ok (.lst (aK w'))/\(∀k∈w',dF n k)/\w'.length<=rm/\xY n w w':=by
 unfold fg ou
 simp -implicitDefEqProofs only [mS,mD,mF,gm,aP,reduceAdd,reduceSub,reduceEqDiff,reduceIte,ah,aj,aG,aH,aI,aJ]
 obtain⟨s',e,hj⟩:=qu (S:=List Int×Sl×Sl×Sl) (b:=gQ) (fun _ s=>(∀k∈s.1,dF n k)/\s.1.length<=rm/\xY n w s.1)
  (fun s=>[.val (.lst (aK s.1)),.val (.int n),.val (.lst (aK cs)),.val (.int rm),s.2.1,s.2.2.1,s.2.2.2]) (dO (aK cs)) 0 (w,.no,.no,.no) ⟨hw,hl,xY.refl n w⟩ (by
   rintro j ⟨u,s1,s2,s3⟩ x ⟨hu,hul,hk⟩ hx
   have hu:∀k∈u,dF n k:=hu
   have hul:u.length<=rm:=hul
   have hk:xY n w u:=hk
   obtain⟨cc,Xz,rfl⟩:=tj hx
   have hj:j<cs.length:=(List.getElem?_eq_some_iff.mp Xz).1
   unfold gQ
   simp -implicitDefEqProofs only [ZC,reduceIte,ah,aj,aG,aH,aI,aJ]
   rw[zh cc j 69621 (by omega) (by decide)]
   have hz:=Cc cc j 69621
   generalize wo cc j 69621=z at hz
   simp -implicitDefEqProofs only [reduceIte,ah,aj,aG,aH,aI,aJ]
   obtain⟨o,ho,hd⟩:=Nu u n z rm hu (by omega) hz (by omega)
   rw[ho]
   cases o with
   |none=>
    simp -implicitDefEqProofs only [reduceIte,ah,aj,aG,aH,aI,aJ,DF]
    exact⟨(u,_,_,_),rfl,hu,hul,hk⟩
   |some d=>
    obtain⟨hc1,hc2⟩:=hd d rfl
    have Xq:(doneF u d).length<=rm:=by omega
    have hnn:um d.d .non=some (.bl true):=by cases d<;>rfl
    simp -implicitDefEqProofs only [reduceIte,ah,aj,aG,aH,aI,aJ,hnn]
    rw[Nq n u d (by omega) hc1]
    simp -implicitDefEqProofs only [reduceIte,ah,aj,aG,aH,aI,aJ]
    exact⟨(doneF u d,_,_,_),rfl,Nt hu hc1,Xq,hk.trans (Nx hu hc1)⟩)
 obtain⟨w',s1,s2,s3⟩:=s'
 dsimp only at e
 rw[e]
 simp -implicitDefEqProofs only [reduceIte,ah,aj,aG,aH,aI,aJ]
 exact⟨w',rfl,hj.1,hj.2.1,hj.2.2⟩
theorem KP(cells:List Int)(hc:cells.length<=63):∃t:List Int,t.length<=63/\dN (bT 2 (jx (bN 0) (jx (bN 1) xQ))) oy jS (lI 2 []) (dO (aK cells))=.ok (aK t):=by
 refine⟨(dO (aK cells)).map fun d=>match d with|.tup [.int k,.int c]=>wo c k 16807|_=>0,by rw[length_map];unfold dO;rw[length_map,length_zipIdx,bc];exact hc,?_⟩
 rw[ph (fun d=>.int (match d with|.tup [.int k,.int c]=>wo c k 16807|_=>0)) _ fun x hx=>by
  obtain⟨i,hi,e⟩:=getElem_of_mem hx
  obtain⟨y,hy,rfl⟩:=sX (i:=i) (d:=x) (by rw[getElem?_eq_getElem hi,e])
  have hz:(aK cells)[i]?=(cells[i]?).map D.int:=by unfold aK;rw[getElem?_map]
  have hi2:i<cells.length:=by
   have:(dO (aK cells)).length=cells.length:=by unfold dO;rw[length_map,length_zipIdx,bc]
   omega
  rw[hz,getElem?_eq_getElem hi2]at hy
  obtain rfl:=Option.some.inj hy
  refine⟨_,rfl,rfl,?_⟩
  unfold jS lI
  simp -implicitDefEqProofs only [mS,mD,mF,gm,aP,reduceAdd,reduceSub,reduceEqDiff,reduceIte,ah,aj,aG,aH,aI,aJ,List.append_eq]
  exact zh _ _ _ (by omega) (by decide)]
 unfold aK
 rw[map_map]
 rfl
theorem NB{cells:List Int}{n:Int}(hc:cells.length<=63)(hn:1<=n){mo:Int}(h0:0<=mo):∃w:List Int,jc [.lst (aK cells),.int n,.int mo]=.ok (.lst (aK w))/\(∀k∈w,dF n k)/\w.length<=mo.toNat:=by
 unfold jc uu
 simp -implicitDefEqProofs only [mS,mD,mF,gm,aP,reduceAdd,reduceSub,reduceEqDiff,reduceIte,ah,aj,aG,aH,aI,aJ]
 rw[jE,qw _ _ (by decide),IW _ _ _ (by rw[length_take];omega) (by omega) (by decide)]
 simp -implicitDefEqProofs only [reduceIte,ah,aj,aG,aH,aI,aJ,bc]
 generalize hw:zj (cells.take (63:Int).toNat) n 189=w
 have hx:∀k∈w,dF n k:=hw▸IV
 by_cases h:(w.length:Int)<=mo
 ·refine⟨w,?_,hx,by omega⟩
  simp -implicitDefEqProofs only [reduceIte,ah,aj,aG,aH,aI,aJ,h,decide_true]
 ·obtain⟨t,ht,e⟩:=KP cells hc
  simp -implicitDefEqProofs only [reduceIte,ah,aj,aG,aH,aI,aJ,h,decide_false,jk,e,R.oA]
  rw[b7 (by omega)]
  simp -implicitDefEqProofs only [reduceIte,ah,aj,aG,aH,aI,aJ,yk,wc,map_some,bc]
  rw[gJ _ _ (by omega)]
  simp -implicitDefEqProofs only [reduceIte,ah,aj,aG,aH,aI,aJ]
  have m0:=emod_nonneg t.sum (show(w.length:Int)-mo+1≠0 by omega)
  have m1:=emod_lt_of_pos t.sum (show(0:Int)<(w.length:Int)-mo+1 by omega)
  generalize t.sum%((w.length:Int)-mo+1)=a at m0 m1
  rw[jE]
  refine⟨_,rfl,fun k hk=>hx k ?_,?_⟩
  ·unfold cut at hk
   exact mem_of_mem_drop (mem_of_mem_take hk)
  ·unfold cut
   rw[jC _ _ _ m0,jC _ _ _ (by omega),length_take]
   omega
theorem Bp{b:D->DE->R Out}{x:D}{xs:List D}{e e':DE}(h:b x e=.ok (.nx e')):gG b (x::xs) e=gG b xs e':=by
 conv=>lhs;unfold gG
 rw[h]
 rfl
theorem ND(ns:List Int)(k:Nat):dz [.lst (aK ns),.int k]=.ok (.int (aa ns k)):=by
 unfold dz oh aa
 simp -implicitDefEqProofs only [mS,mD,mF,gm,aP,reduceAdd,reduceSub,reduceEqDiff,reduceIte,ah,aj,aG,aH,aI,aJ,bc]
 by_cases h:(k:Int)<ns.length
 ·have hk:k<ns.length:=by omega
  simp -implicitDefEqProofs only [reduceIte,ah,aj,aG,aH,aI,aJ,h,decide_true]
  rw[fz (by omega) h]
  simp -implicitDefEqProofs only [reduceIte,ah,aj,aG,aH,aI,aJ,toNat_natCast]
  unfold aa
  rfl
 ·simp -implicitDefEqProofs only [reduceIte,ah,aj,aG,aH,aI,aJ,h,decide_false]
  rw[getElem?_eq_none (by omega)]
  rfl
theorem Gw(r:List Int)(h:r.length<64):Ar (aK r)=.ok (aK (sortI r)):=by
 unfold Ar
 rw[wc]
 exact if_pos h
theorem KQ{n:Nat}(hn:n<=7):Aw [.int n]=.ok (aK (upTo n).reverse):=by
 refine(if_pos ⟨by omega,by omega⟩).trans (congrArg R.ok ?_)
 rw[toNat_natCast]
 have hc:n=0\/n=1\/n=2\/n=3\/n=4\/n=5\/n=6\/n=7:=by omega
 rcases hc with rfl|rfl|rfl|rfl|rfl|rfl|rfl|rfl<;>rfl
def qk:List RP->D
 |[]=>.non
 |p::_=>.lst (aK p.1)
theorem NF(xs:List D):um (.lst xs) .non=some (.bl true):=rfl
theorem W7{n:Nat}(hn:n<=7)(s0 s1:Sl){A:List RP}{q:RP}(hA:∀p∈A,Iv n p.1 p.2)(iq:Iv n q.1 q.2)(hf:∀p B,A=p::B->km p q=[]){j:Nat}(hj:j+1<n)(s4:Sl):
  eB (.int ((j:Int)+1)) [s0,s1,.val (qk A),.val (.lst (aK q.1)),s4]=.ok (.nx [s0,s1,.val (qk A),.val (.lst (aK q.1)),.val (.int ((j:Int)+1))]):=by
 unfold eB
 cases A with
 |nil=>
  unfold qk
  simp -implicitDefEqProofs only [jy,mS,mD,mF,gm,aP,reduceAdd,reduceSub,reduceEqDiff,reduceIte,ah,aj,aG,aH,aI,aJ,DF]
 |cons p B=>
  have ip:=hA p (by simp)
  have h:=(cR ip iq).mp (hf p B rfl) j hj
  have e1:nZ (aK q.1) (.int ((j:Int)+1-1))=.ok (.int (aa q.2 j)):=by rw[show(j:Int)+1-1=((j:Nat):Int)by omega];exact AL iq (by omega)
  have e2:nZ (aK q.1) (.int ((j:Int)+1))=.ok (.int (aa q.2 (j+1))):=by have:=AL iq hj;rw[<-this];congr 2
  unfold qk
  simp -implicitDefEqProofs only [jy,reduceIte,ah,aj,aG,aH,aI,aJ,NF,e1,e2]
  by_cases c:aa q.2 j>aa q.2 (j+1)
  ·have h2:=h c
   simp -implicitDefEqProofs only [reduceIte,ah,aj,aG,aH,aI,aJ,c,decide_true]
   have lp:=ip.lr
   rw[fz (by omega) (by omega),fz (by omega) (by omega)]
   simp -implicitDefEqProofs only [reduceIte,ah,aj,aG,aH,aI,aJ]
   rw[show((j:Int)+1-1).toNat=j by omega,show((j:Int)+1).toNat=j+1 by omega,decide_eq_false (by omega)]
   simp -implicitDefEqProofs only [reduceIte,ah,aj,aG,aH,aI,aJ]
  ·simp -implicitDefEqProofs only [reduceIte,ah,aj,aG,aH,aI,aJ,c,decide_false]
theorem PU{n:Nat}(hn:n<=7)(s0 s1:Sl){A:List RP}{q:RP}(hA:∀p∈A,Iv n p.1 p.2)(iq:Iv n q.1 q.2)(hf:∀p B,A=p::B->km p q=[]):∀(m j:Nat)(s4:Sl),j+1+m<=n->∃W8,gG eB (pX ((j:Int)+1) m) [s0,s1,.val (qk A),.val (.lst (aK q.1)),s4]=.ok (.nx [s0,s1,.val (qk A),.val (.lst (aK q.1)),W8])
 |0,j,s4,_=>⟨s4,by rw[show pX ((j:Int)+1) 0=[]from rfl];rfl⟩
 |m+1,j,s4,h=>by
  obtain⟨s,e⟩:=PU hn s0 s1 hA iq hf m (j+1) (.val (.int ((j:Int)+1))) (by omega)
  refine⟨s,?_⟩
  have er:pX ((j:Int)+1) (m+1)=.int ((j:Int)+1)::pX (((j+1:Nat):Int)+1) m:=by
   rw[vg,vg,List.range_succ_eq_map,map_cons,map_map,<-qX]
   congr 1
   congr 1
   apply map_congr_left
   intro x _
   simp -implicitDefEqProofs only [Function.comp]
   omega
  rw[er,Bp (W7 hn s0 s1 hA iq hf (by omega) s4)]
  exact e
theorem W9{n:Nat}(h1:1<=n)(hn:n<=7)(s0 s4:Sl){A:List RP}{q:RP}(hA:∀p∈A,Iv n p.1 p.2)(iq:Iv n q.1 q.2)(hs:Lb n q)(hh:q≠eJ n)(hf:∀p B,A=p::B->km p q=[])(s3:Sl):
  ∃W8,eI (.lst (aK q.1)) [s0,.val (.int n),.val (qk A),s3,s4]=.ok (.nx [s0,.val (.int n),.val (qk (q::A)),.val (.lst (aK q.1)),W8]):=by
 have hi:Iv n (upTo n) (upTo n):=nE n
 have lq:=iq.lr
 have n1:q.1≠upTo n:=fun e=>by
  have i2:=iq
  rw[e]at i2
  exact Jz hs (Prod.ext e (i2.symm.uniq hi.symm))
 have n2:q.1≠(upTo n).reverse:=fun e=>by
  have i2:=iq
  rw[e]at i2
  exact hh (Prod.ext e (i2.symm.uniq (Kx n).symm))
 unfold eI
 simp -implicitDefEqProofs only [jy,mS,mD,mF,gm,aP,reduceAdd,reduceSub,reduceEqDiff,reduceIte,ah,aj,aG,aH,aI,aJ,jk]
 rw[qA (fun _=>false) q.1 fun s _=>⟨_,jy _ _ _,rfl,rfl⟩]
 have ef:q.1.filter (fun _=>false)=[]:=List.filter_eq_nil_iff.mpr fun _ _=>by simp
 have t1:∀xs:List D,jQ (y6 (.lst xs)) "list"=true:=fun _=>rfl
 rw[ef]
 simp -implicitDefEqProofs only [reduceIte,ah,aj,aG,aH,aI,aJ,R.oA,t1,Bool.not_true]
 rw[b7 (by decide),show(D.lst [])=.lst (aK [])from rfl]
 simp -implicitDefEqProofs only [reduceIte,ah,aj,aG,aH,aI,aJ,Om,decide_true,Bool.not_true]
 rw[Gw _ (by omega),Jg (tU iq),yi _ (by omega),toNat_natCast,yt,KQ hn]
 simp -implicitDefEqProofs only [reduceIte,ah,aj,aG,aH,aI,aJ,Om,VS,decide_true,Bool.not_true,decide_eq_false n1,decide_eq_false n2]
 rw[HW _ _ (by omega)]
 obtain⟨s,e⟩:=PU hn s0 (.val (.int n)) hA iq hf (n-1) 0 s4 (by omega)
 rw[show((n:Int)-1).toNat=n-1 by omega,show(1:Int)=((0:Nat):Int)+1 from rfl]
 simp -implicitDefEqProofs only [reduceIte,ah,aj,aG,aH,aI,aJ,e]
 exact⟨_,rfl⟩
theorem KR{n:Nat}(h1:1<=n)(hn:n<=7)(s0:Sl){R:List RP}(hL:oG n R)(hh:∀x∈R,x≠eJ n):∀(B A:List RP)(s3 s4:Sl),R=A.reverse++B->∃s2' s3' W8,gG eI (B.map fun p=>.lst (aK p.1)) [s0,.val (.int n),.val (qk A),s3,s4]=.ok (.nx [s0,.val (.int n),s2',s3',W8])
 |[],A,s3,s4,_=>⟨_,s3,s4,rfl⟩
 |q::B,A,s3,s4,e=>by
  have mq:q∈R:=by rw[e];simp
  obtain⟨u4,e1⟩:=W9 h1 hn s0 s4 (A:=A) (fun p hp=>hL.iv p (by rw[e];simp[hp])) (hL.iv q mq) (hL.ns q mq) (hh q mq) (fun p C ec=>hL.nb (A:=C.reverse) (B:=B) (by rw[e,ec];simp)) s3
  obtain⟨a,b,c,e2⟩:=KR h1 hn s0 hL hh B (q::A) (.val (.lst (aK q.1))) u4 (by rw[e];simp)
  exact⟨a,b,c,by rw[map_cons,Bp e1];exact e2⟩
theorem CS{n:Nat}(h1:1<=n)(hn:n<=7){Z:List RP}{h:Int}(hL:oG n Z)(hh:∀x∈Z,x≠eJ n)(h0:n=1->h=0):cA [.tup [.int h,.lst (Z.map fun p=>.lst (aK p.1))],.int n]=.ok (.bl true):=by
 unfold cA oi
 have a0:∀(x y:D),ig [x,y] 0=some x:=fun _ _=>rfl
 have a1:∀(x y:D),ig [x,y] 1=some y:=fun _ _=>rfl
 have t1:∀xs:List D,jQ (y6 (.lst xs)) "list"=true:=fun _=>rfl
 have t2:∀xs:List D,jQ (y6 (.tup xs)) "tuple"=true:=fun _=>rfl
 have t3:∀i:Int,jQ (y6 (.int i)) "int"=true:=fun _=>rfl
 have t4:∀i:Int,jQ (y6 (.int i)) "bool"=false:=fun _=>rfl
 simp -implicitDefEqProofs only [mS,mD,mF,gm,aP,reduceAdd,reduceSub,reduceEqDiff,reduceIte,ah,aj,aG,aH,aI,aJ,t1,t2,Bool.not_true,a0,a1,t3,t4]
 have b2:((2:Int)==2)=true:=rfl
 have b3:(((2:Nat):Int)==2)=true:=rfl
 simp -implicitDefEqProofs only [reduceIte,ah,aj,aG,aH,aI,aJ,b2,b3,Bool.not_true,a0,a1,t3,t4]
 obtain⟨s2,s3,s4,e⟩:=KR h1 hn (.val (.tup [.int h,.lst (Z.map fun p=>.lst (aK p.1))])) hL hh Z [] .no .no rfl
 unfold qk at e
 by_cases c:n=1
 ·obtain rfl:=h0 c
  subst c
  simp -implicitDefEqProofs only [reduceIte,ah,aj,aG,aH,aI,aJ,show(((1:Nat):Int)==1)=true from rfl,show((0:Int)==0)=true from rfl,Bool.not_true,a1,e]
 ·have c2:((n:Int)==1)=false:=beq_eq_false_iff_ne.mpr (by omega)
  simp -implicitDefEqProofs only [reduceIte,ah,aj,aG,aH,aI,aJ,c2,a1,e]
theorem KS{R:List RP}(h:oG 1 R):R=[]:=by
 cases R with
 |nil=>rfl
 |cons p R=>obtain⟨a,ha,_⟩:=h.ns p (by simp);omega
theorem sy{n:Nat}(h1:1<=n)(hn:n<=7){w:List Int}(hw:∀k∈w,dF n k)(hl:w.length<=40):∃ω,gR [.int n,.lst (aK w)]=.ok (EZ ω)/\Ut n w ω.1 ω.2/\(2<=n->ω=mh n w (0,[]))/\(n=1->ω=(0,[])):=by
 by_cases h2:2<=n
 ·obtain⟨e,F⟩:=Gu hn h2 hw hl
  rw[CP]at e
  exact⟨_,e,F,fun _=>rfl,fun z=>by omega⟩
 ·obtain rfl:n=1:=by omega
  obtain⟨h,R,e,F,_⟩:=EF (n:=1) (by omega) hn hw hl
  rw[CP]at e
  refine⟨(h,R),e,F,fun z=>by omega,fun _=>?_⟩
  have hb:=F.bd
  have hw0:w=[]:=by
   cases w with
   |nil=>rfl
   |cons k w=>have:=hw k (by simp);unfold dF at this;omega
  rw[hw0]at hb
  have:h=0:=by simp -implicitDefEqProofs only [length_nil]at hb;omega
  rw[this,KS F.ln]
theorem xn{n:Nat}{u v:List Int}{ω ω':Int×List RP}(e:gR [.int n,.lst (aK u)]=.ok (EZ ω))(e':gR [.int n,.lst (aK v)]=.ok (EZ ω')):qC [.int n,.lst (aK u),.lst (aK v)]=.ok (.bl (ω.1==ω'.1&&decide (ω.2.map (·.1)=ω'.2.map (·.1)))):=by
 unfold qC JF
 simp -implicitDefEqProofs only [mS,mD,mF,gm,aP,reduceAdd,reduceSub,reduceEqDiff,reduceIte,ah,aj,aG,aH,aI,aJ,e,e',E4]
theorem KU{n:Nat}{u v:List Int}{ω ω':Int×List RP}(F:Ut n u ω.1 ω.2)(F':Ut n v ω'.1 ω'.2)(h:pM u≠pM v):(ω.1==ω'.1&&decide (ω.2.map (·.1)=ω'.2.map (·.1)))=false:=by
 cases e:(ω.1==ω'.1&&decide (ω.2.map (·.1)=ω'.2.map (·.1)))with
 |false=>rfl
 |true=>
  simp -implicitDefEqProofs only [and_eq_true,beq_iff_eq,decide_eq_true_eq]at e
  have a:=F.cr
  have b:=F'.cr
  rw[e.1,e.2,b]at a
  exact absurd a.symm h
theorem same_self(ω:Int×List RP):(ω.1==ω.1&&decide (ω.2.map (·.1)=ω.2.map (·.1)))=true:=by simp
theorem Xa(ns:List Int)(hl:ns.length<=63):wK [.lst (aK ns)]=.ok (.bl true):=by
 unfold wK O8
 simp -implicitDefEqProofs only [mS,mD,mF,gm,aP,reduceAdd,reduceSub,reduceEqDiff,reduceIte,ah,aj,aG,aH,aI,aJ,HR]
 rw[show dz [.lst (aK ns),.int 0]=.ok (.int (aa ns 0))from ND ns 0]
 simp -implicitDefEqProofs only [reduceIte,ah,aj,aG,aH,aI,aJ]
 rw[gJ _ _ (by decide)]
 simp -implicitDefEqProofs only [reduceIte,ah,aj,aG,aH,aI,aJ,Cd]
 have abn:=emod_nonneg (aa ns 0) (show(1000000000:Int)≠0 by decide)
 generalize aa ns 0%1000000000=sd at abn
 obtain⟨n1,n7⟩:=Az sd
 generalize lQ sd=n0 at n1 n7
 obtain⟨n,rfl⟩:∃n:Nat,n0=n:=⟨n0.toNat,by omega⟩
 obtain⟨mo,rm,e1,e2,m0,mr,r0⟩:∃mo rm:Nat,(if decide ((n:Int)<5)=true then R.ok (D.int 14)else R.ok (D.int 8))=R.ok (.int (mo:Nat))/\(if decide ((n:Int)<5)=true then R.ok (D.int 24)else R.ok (D.int 14))=R.ok (.int (rm:Nat))/\mo<=14/\mo<=rm/\rm<=24:=by
  by_cases h:(n:Int)<5
  ·exact⟨14,24,by rw[decide_eq_true h];rfl,by rw[decide_eq_true h];rfl,by omega,by omega,by omega⟩
  ·exact⟨8,14,by rw[decide_eq_false h];rfl,by rw[decide_eq_false h];rfl,by omega,by omega,by omega⟩
 obtain⟨w,ew,hx,hw⟩:=NB (cells:=ns) (n:=n) hl (by omega) (mo:=(mo:Int)) (by omega)
 rw[toNat_natCast]at hw
 obtain⟨v,ev,hv,Vv,lk⟩:=CQ (n:=n) w ns rm (by omega) hx (by omega) (by omega) (by omega)
 obtain⟨ω,fw,Fw,aw,zw⟩:=sy (n:=n) (by omega) (by omega) hx (by omega)
 obtain⟨ω',fv,Fv,av,zv⟩:=sy (n:=n) (by omega) (by omega) hv (by omega)
 have hω:ω'=ω:=by
  by_cases h2:2<=n
  ·rw[aw h2,av h2,lk (by omega) h2 _ vH]
  ·rw[zw (by omega),zv (by omega)]
 subst hω
 have a0:∀(x y:D),ig [x,y] 0=some x:=fun _ _=>rfl
 have a1:∀(x y:D),ig [x,y] 1=some y:=fun _ _=>rfl
 have h0:∀{u:List Int},Ut n u ω'.1 ω'.2->n=1->ω'.1=0:=fun _ e=>by rw[zw e]
 have isf:cA [EZ ω',.int n]=.ok (.bl true):=by
  have:=CS (n:=n) (by omega) (by omega) (h:=ω'.1) Fw.ln Fw.nh (h0 Fw)
  rw[CP]at this
  exact this
 have ki:∀a b:Bool,VX (.bl a) (.bl b)=some (.bl (a==b)):=fun _ _=>rfl
 have kn:∀a b:Bool,zd (.bl a) (.bl b)=some (.bl (!(a==b))):=fun _ _=>rfl
 simp -implicitDefEqProofs only [reduceIte,ah,aj,aG,aH,aI,aJ,e1,ew,e2,ev,a0,a1,fw,fv,isf,Bool.not_true,Ny,same_self,xn fw fv,kn,beq_self_eq_true,Nz]
 by_cases c:n=1
 ·have c1:((n:Int)==1)=true:=by rw[c];rfl
  have ez:D.tup [.int 0,.lst []]=EZ (0,[]):=rfl
  simp -implicitDefEqProofs only [reduceIte,ah,aj,aG,aH,aI,aJ,Bool.not_true,c1,ez,E4,zw c,beq_self_eq_true,map_nil,decide_true,Bool.and_self]
 ·have c1:((n:Int)==1)=false:=beq_eq_false_iff_ne.mpr (by omega)
  simp -implicitDefEqProofs only [reduceIte,ah,aj,aG,aH,aI,aJ,decide_true,Bool.and_self,beq_self_eq_true,Bool.not_true,c1]
  rw[zh sd 3 40692 (by decide) (by decide)]
  generalize wo sd 3 40692=z
  obtain⟨k,ek,hk⟩:∃k,bh [.int z,.int n]=.ok (.int k)/\dF n k:=⟨_,wq z n (by omega),wu z n (by omega)⟩
  have hsg:pM w=pM v:=by rw[<-Fw.cr,<-Fv.cr]
  have hsk:Gi k≠0:=by unfold Gi;split<;>omega
  have h1:∀u:List Int,pM (u++[k])=pM u+Gi k:=fun u=>by rw[vC];congr 1;simp[pM]
  have xk:∀{u:List Int},(∀x∈u,dF n x)->∀x∈u++[k],dF n x:=fun{u} hu x hx=>by
   rcases mem_append.mp hx with h|h
   ·exact hu x h
   ·rw[mem_singleton.mp h];exact hk
  obtain⟨ω1,f1,F1,_⟩:=sy (n:=n) (by omega) (by omega) (xk hx) (by rw[length_append,length_singleton];omega)
  obtain⟨ω2,f2,F2',_⟩:=sy (n:=n) (by omega) (by omega) (xk hv) (by rw[length_append,length_singleton];omega)
  have e3:∀u:List Int,aK u++[D.int k]=aK (u++[k]):=fun u=>by unfold aK;simp
  simp -implicitDefEqProofs only [reduceIte,ah,aj,aG,aH,aI,aJ,ek,e3]
  rw[b7 (ns:=w++[k]) (by rw[length_append,length_singleton];omega),b7 (ns:=v++[k]) (by rw[length_append,length_singleton];omega)]
  simp -implicitDefEqProofs only [reduceIte,ah,aj,aG,aH,aI,aJ,xn f1 fv,KU F1 Fv (by rw[h1,hsg];omega),ki,xn fw f2,KU Fw F2' (by rw[h1,hsg];omega),beq_self_eq_true]
theorem TH{K:PySem.W.Frag}{H:Hp}{a:Addr}(ns:List Int)(hl:ns.length<=63)(hS:cX K H a (ns.map V.int)):Dh K GK wK [.ref a] H (fun v _=>v=.bl true) fun _ _ _=>False:=V8 (Xa ns hl) hS
end DL
namespace DL.oH
open PySem PySem.Spec PyProof.Rows L2 DL
section
variable{P:Program}{w:World}{K:PySem.W.Frag}{mg:Str->Option Value}{base:Heap}(t:Tb K mg)
theorem Gx:mB P w K mg base 1 t.rL t.rM ["word"] og:=by
 have h:=qv (P:=P) (w:=w) (base:=base) (k:=0) Cu t.wR fun cdv A outer s H E hr=>
  (aY (jw (ui (Me (N:=["k"]) (nt:=1) (caps:=[]) (ae tN) ["word"] (by decide +kernel)) rfl (BX (iV t.j0 (nD 0))) (Kp.ok (zb (nt:=1) 0)) (fun _ _ _ _ _=>(xu 0 (by show Nodup (["k"]:List Str);decide +kernel))) (fun _ _ _ _ _=>T4) (fun _ _ _ _ _=>(Hv jj gE (nB 0))))))
 exact h
theorem CT:mB P w K mg base 1 t.pD t.pF ["word"] lR:=by
 have h:=qv (P:=P) (w:=w) (base:=base) (k:=0) oJ t.tQ fun cdv A outer s H E hr=>
  (aL (yh 1 (nJ bC) oJ.nd)
  (aL (xN PassesOwn.never rfl (iL (nD 0)) (xu 2 oJ.nd) (aY (sC (kF (aU gj dW (PE.aC (fE ck dH t.jf dJ (aA (nB 1) br))) (PE.aC cI) (aE _)) (qR (aU (dX (aZ.u6 hr)) cD (PE.aC (qU (nL 1) (PE.aC (Hv jj gE (PE.aC cI))))) (PE.aC (Hv jj gE (nB 2))) (aE _)))).pt (aY (VV 1)) (aY (VU 1 (nD 2))))))
  (aY (HB 1))))
 exact h
theorem Bq:mB P w K mg base 1 t.iJ t.iK ["n"] cZ:=by
 have h:=qv (P:=P) (w:=w) (base:=base) (k:=0) zq t.fq fun cdv A outer s H E hr=>
  (aY (jw (B4 rfl t.g7 t.kY (aA (nB 0) br))))
 exact h
theorem NG:mB P w K mg base 1 t.zt t.zu ["n"] wy:=by
 have h:=qv (P:=P) (w:=w) (base:=base) (k:=0) JG t.wU fun cdv A outer s H E hr=>
  (aY (jw (Mn rfl t.g7 t.kY (aA (PE.aC (bj bX bO (nB 0) (PE.aC cI))) (aA (PE.aC (Hv jj gE (PE.aC cI))) (aA (PE.aC (Hv jj gE (PE.aC cI))) br))))))
 exact h
theorem zJ:mB P w K mg base 1 t.gq t.gu ["row"] b9:=by
 have h:=qv (P:=P) (w:=w) (base:=base) (k:=0) iS t.gw fun cdv A outer s H E hr=>
  (aL (yh 1 (Zx (nJ (az cI bC)) (PE.aC (fE ck dH t.jf dJ (aA (nB 0) br)))) iS.nd)
  (aL (xN PassesOwn.never rfl (iE t.je (nD 0)) (Xw 2 rfl (kI (xu 2 iS.nd) (kI (xu 3 iS.nd) za))) (aY (zc 1 (nB 3) (nD 2))))
  (aY (HB 1))))
 exact h
theorem KW:mB P w K mg base 1 t.rN t.rO ["row"] pB:=by
 have h:=qv (P:=P) (w:=w) (base:=base) (k:=0) Gb t.pG fun cdv A outer s H E hr=>
  (aY (jw (ui (Me (N:=["k","row"]) (nt:=1) (caps:=[0]) (ae wM) ["row"] (by decide +kernel)) rfl (BX (iR2 t.kY (aA (PE.aC cI) (aA (PE.aC (fE ck dH t.jf dJ (aA (nB 0) br))) br)))) (Kp.ok (zb (nt:=1) 0)) (fun _ _ _ _ _=>(xu 0 (by show Nodup (["k","row"]:List Str);decide +kernel))) (fun _ _ _ _ _=>(ts1 (aU gj dW (PE.aC (qU (nL 1) (PE.aC (bj bX bO (nB 0) (PE.aC cI))))) (PE.aC (qU (nL 1) (nB 0))) (aE _)))) (fun _ _ _ _ _=>(nD 0)))))
 exact h
theorem mj:mB P w K mg base 1 t.bp t.bq ["row","k"] aQ:=by
 have h:=qv (P:=P) (w:=w) (base:=base) (k:=0) lA t.aS fun cdv A outer s H E hr=>
  (aY (jw (uF (PE.jP (uF (PE.jP (gF (nL 0) GH (pW (PE.aC (bj bX bO (nB 1) (PE.aC cI)))))) (PE.jP (nJ (az (qU (nL 0) (nB 1)) (az (qU (nL 0) (PE.aC (bj bX bO (nB 1) (PE.aC cI)))) bC)))))) (PE.jP (gF (nL 0) (pW (PE.aC (bj cY bw (nB 1) (PE.aC cI)))) GH)))))
 exact h
theorem xo:mB P w K mg base 1 t.iU t.iW ["row"] fJ:=by
 have h:=qv (P:=P) (w:=w) (base:=base) (k:=0) uM t.lC fun cdv A outer s H E hr=>
  (aY (jw (ui (Me (N:=["string","row"]) (nt:=1) (caps:=[0]) (ae jV) ["row"] (by decide +kernel)) rfl (BX (iV t.j0 (nD 0))) (Kp.ok (zb (nt:=1) 0)) (fun _ _ _ _ _=>(xu 0 (by show Nodup (["string","row"]:List Str);decide +kernel))) (fun _ _ _ _ _=>T4) (fun _ _ _ _ _=>(bj bX bO (PE.aC (bj bX bO (PE.aC (fE ck dH t.jf dJ (aA (nB 1) br))) (PE.aC cI))) (nB 0))))))
 exact h
theorem CU:Ok P w K mg base 1 t.pH t.pI ["crossings"] lT:=by
 have h:=Ox (P:=P) (w:=w) (base:=base) (k:=0) kN t.gx fun cdv A outer s H E hr=>
  (aL (gH 1 cI kN.nd)
  (aL (xN PassesOwn.never rfl (iL (nD 0)) (xu 2 kN.nd) (aY (Oo 1 V4 (PE.aC (bj Qt Mq (PE.aC cI) (PE.aC (bj bX bO (nB 2) (PE.aC cI))))) kN.nd)))
  (aY (eY (nD 1)))))
 exact h
theorem Br:Ok P w K mg base 1 t.gg t.gh ["_law_cell","_law_k","_law_factor"] cy:=by
 have h:=Ox (P:=P) (w:=w) (base:=base) (k:=0) zr t.iM fun cdv A outer s H E hr=>
  (aY (eY (bj kB kE (PE.aC (bj gC ee (PE.aC (bj yR uY (PE.aC (bj cY bw (PE.aC (bj cY bw (PE.aC (bj yR uY (PE.aC (bj gC ee (nB 0) (PE.aC cI))) (PE.aC cI))) (PE.aC (bj yR uY (nB 1) (nB 1))))) (PE.aC cI))) (nB 2))) (PE.aC cI))) (PE.aC cI))))
 exact h
theorem uQ:Ok P w K mg base 1 t.gU t.gV ["_law_script","_law_k"] dz:=by
 have h:=Ox (P:=P) (w:=w) (base:=base) (k:=0) tP t.jX fun cdv A outer s H E hr=>
  (aL (sC (aU qL qp (nB 1) (PE.aC (fE ck dH t.jf dJ (aA (nB 0) br))) (aE _)) (aY (eY (qU (nL 0) (nB 1)))) iG)
  (aY (eY cI)))
 exact h
theorem uR:Ok P w K mg base 1 t.gW t.gX ["_law_seed","_law_least","_law_most"] eZ:=by
 have h:=Ox (P:=P) (w:=w) (base:=base) (k:=0) l9 t.jY fun cdv A outer s H E hr=>
  (aL (sC (kF (aU (dX (aZ.u6 hr)) cD (nB 1) (PE.aC cI) (aE _)) (qR (aU (dX (aZ.u6 hr)) cD (PE.aC (bj gC ee (nB 0) (PE.aC cI))) (PE.aC cI) (aE _)))).pt (aY (eY cI)) iG)
  (aL (gH 1 (fE (Fj rfl) HA t.Pb Q3 (aA (PE.aC cI) (aA (nB 1) br))) l9.nd)
  (aY (eY (bj cY bw (nB 1) (PE.aC (bj gC ee (PE.aC (bj kB kE (nB 0) (PE.aC cI))) (PE.aC (bj cY bw (PE.aC (bj bX bO (nB 2) (nB 1))) (PE.aC cI))))))))))
 exact h
theorem tZ:Ok P w K mg base 1 t.cL t.cM ["_law_number","_law_n"] bh:=by
 have h:=Ox (P:=P) (w:=w) (base:=base) (k:=0) kO t.dS fun cdv A outer s H E hr=>
  (aL (gH 2 (bj cY bw (PE.aC cI) (PE.aC (bj gC ee (nB 0) (PE.aC (bj bX bO (nB 1) (PE.aC cI)))))) kO.nd)
  (aL (sC (aU (dX (aZ.u6 hr)) cD (PE.aC (bj gC ee (PE.aC (bj kB kE (nB 0) (PE.aC cI))) (PE.aC cI))) (PE.aC cI) (aE _)) (aY (eY (Hv jj gE (nB 2)))) iG)
  (aY (eY (nD 2)))))
 exact h
theorem zK:mB P w K mg base 1 t.kW t.kX ["_law_word","_law_deed_here"] i9:=by
 have h:=qv (P:=P) (w:=w) (base:=base) (k:=0) qj t.oU fun cdv A outer s H E hr=>
  (aL (gH 2 (vW (nD 1) (PE.aC cI)) qj.nd)
  (aL (sC (aU (dX (aZ.u6 hr)) cD (PE.aC (vW (nD 1) (PE.aC cI))) (PE.aC cS) (aE _)) (aY (jw (uF (PE.jP (gF (nL 0) GH (pW (nB 2)))) (PE.jP (gF (nL 0) (pW (PE.aC (bj cY bw (nB 2) (PE.aC cI)))) GH))))) iG)
  (aL (sC (aU (dX (aZ.u6 hr)) cD (PE.aC (vW (nD 1) (PE.aC cI))) (PE.aC cS) (aE _)) (aY (jw (uF (PE.jP (uF (PE.jP (gF (nL 0) GH (pW (nB 2)))) (PE.jP (nJ (az (vW (nD 1) (PE.aC cI)) (az (Hv jj gE (PE.aC (vW (nD 1) (PE.aC cI)))) bC)))))) (PE.jP (gF (nL 0) (pW (nB 2)) GH))))) iG)
  (aL (sC (aU (dX (aZ.u6 hr)) cD (PE.aC (vW (nD 1) (PE.aC cI))) (PE.aC cS) (aE _)) (aY (jw (uF (PE.jP (uF (PE.jP (gF (nL 0) GH (pW (nB 2)))) (PE.jP (nJ (az (qU (nL 0) (PE.aC (bj cY bw (nB 2) (PE.aC cI)))) (az (qU (nL 0) (nB 2)) bC)))))) (PE.jP (gF (nL 0) (pW (PE.aC (bj cY bw (nB 2) (PE.aC cI)))) GH))))) iG)
  (aY (jw (uF (PE.jP (uF (PE.jP (gF (nL 0) GH (pW (nB 2)))) (PE.jP (nJ (az (qU (nL 0) (PE.aC (bj cY bw (nB 2) (PE.aC cI)))) (az (qU (nL 0) (nB 2)) (az (qU (nL 0) (PE.aC (bj cY bw (nB 2) (PE.aC cI)))) bC))))))) (PE.jP (gF (nL 0) (pW (PE.aC (bj cY bw (nB 2) (PE.aC cI)))) GH)))))))))
 exact h
theorem uS:Ok P w K mg base 1 t.g4 t.g5 ["_law_found","_law_n"] cA:=by
 have h:=Ox (P:=P) (w:=w) (base:=base) (k:=0) dD t.g6 fun cdv A outer s H E hr=>
  (aL (sC (qT (vV (yZ (PE.aC (B3 HJ Al t.cV t.zB (nB 0))))) (qT (aU (nV (aZ.u6 hr)) kH (PE.aC (fE ck dH t.jf dJ (aA (nB 0) br))) (PE.aC cI) (aE _)) (yY (vV (yZ (PE.aC (B3 Dn mz t.cV t.g7 (PE.aC (vW (nD 0) (PE.aC cI)))))))))).pt (aY (eY GG)) iG)
  (aL (sC (qT (vV (yZ (PE.aC (B3 HH HK t.cV t.JN (PE.aC (vW (nD 0) (PE.aC cI))))))) (qT (yZ (PE.aC (B3 Dm Dq t.cV t.Cy (PE.aC (vW (nD 0) (PE.aC cI)))))) (yY (kF (aU (dX (aZ.u6 hr)) cD (nB 1) (PE.aC cI) (aE _)) (qR (aU (nV (aZ.u6 hr)) kH (PE.aC (vW (nD 0) (PE.aC cI))) (PE.aC cI) (aE _)))).pt))).pt (aY (eY GG)) iG)
  (aL (gH 2 cN dD.nd)
  (aL (xN PassesOwn.never rfl (iL (vW (nD 0) (PE.aC cI))) (xu 3 dD.nd) (aL (sC (qT (vV (yZ (PE.aC (B3 Dn mz t.cV t.g7 (nB 3))))) (yY (aU (nV (aZ.u6 hr)) kH (PE.aC (PE.eU (ui (Me (N:=["_law_s"]) (nt:=1) (caps:=[]) (ae jq) ["_law_found","_law_n","_law_last","_law_row","_law_k"] (by decide +kernel)) rfl (BX (iL (nD 3))) (Kp.ok (zb (nt:=1) 0)) (fun _ _ _ _ _=>(xu 0 (by show Nodup (["_law_s"]:List Str);decide +kernel))) (fun _ _ _ _ _=>(ts1 (qT (vV (yZ (PE.aC (B3 HH HK t.cV t.JN (nB 0))))) (yY (yZ (PE.aC (B3 Dm Dq t.cV t.Cy (nB 0)))))).pt)) (fun _ _ _ _ _=>(nD 0))))) (PE.aC (PE.eU (nJ bC))) (aE _)))).pt (aY (eY GG)) iG)
  (aL (sC (qT (aU (nV (aZ.u6 hr)) kH (PE.aC (PE.eU (Mj t.AY (nL 3)))) (PE.aC (PE.eU (B4 rfl t.g7 t.kY (aA (nB 1) br)))) (aE _)) (qT (aU (dX (aZ.u6 hr)) cD (nB 3) (PE.aC (PE.eU (B4 rfl t.g7 t.kY (aA (nB 1) br)))) (aE _)) (yY (aU (dX (aZ.u6 hr)) cD (nB 3) (PE.aC (PE.eU (Ry rfl t.g7 t.j0 t.kY (aA (nB 1) br)))) (aE _))))).pt (aY (eY GG)) iG)
  (aL (xN PassesOwn.never rfl (iR2 t.kY (aA (PE.aC cI) (aA (nB 1) br))) (xu 4 dD.nd) (aY (sC (kF (aU yS vZ (nB 2) (PE.aC cN) (aE _)) (kF (aU gj dW (PE.aC (Ie (nL 3) (PE.aC (bj bX bO (nB 4) (PE.aC cI))))) (PE.aC (Ie (nL 3) (nB 4))) (aE _)) (qR (aU qL qp (PE.aC (vW (nD 2) (PE.aC (bj bX bO (nB 4) (PE.aC cI))))) (PE.aC (vW (nD 2) (nB 4))) (aE _))))).pt (aY (eY GG)) iG)))
  (aY (gH 2 (nD 3) dD.nd))))))
  (aY (eY GG))))))
 exact h
theorem Gy(cg:mB P w K mg base 1 t.gq t.gu ["row"] b9)(pL:mB P w K mg base 1 t.rN t.rO ["row"] pB):mB P w K mg base 2 t.rP t.rQ ["row"] rz:=by
 have h:=qv (P:=P) (w:=w) (base:=base) (k:=1) Cw t.oN fun cdv A outer s H E hr=>
  (aY (jw (zR t.pG pL (hr.mono (by decide)) (az (PE.eU (zR t.gw cg (hr.mono (by decide)) (az (nD 0) bC))) bC))))
 exact h
theorem m9(cg:mB P w K mg base 1 t.gq t.gu ["row"] b9)(aT:mB P w K mg base 1 t.bp t.bq ["row","k"] aQ):mB P w K mg base 2 t.cG t.cH ["row","k"] cF:=by
 have h:=qv (P:=P) (w:=w) (base:=base) (k:=1) lZ t.bJ fun cdv A outer s H E hr=>
  (aY (jw (zR t.gw cg (hr.mono (by decide)) (az (PE.eU (zR t.aS aT (hr.mono (by decide)) (az (PE.eU (zR t.gw cg (hr.mono (by decide)) (az (nD 0) bC))) (az (nD 1) bC)))) bC))))
 exact h
theorem Gz(fx:mB P w K mg base 1 t.iJ t.iK ["n"] cZ)(aT:mB P w K mg base 1 t.bp t.bq ["row","k"] aQ):mB P w K mg base 2 t.rR t.rS ["n","word"] lU:=by
 have h:=qv (P:=P) (w:=w) (base:=base) (k:=1) mJ t.rT fun cdv A outer s H E hr=>
  (aL (yh 2 (zR t.fq fx (hr.mono (by decide)) (az (nD 0) bC)) mJ.nd)
  (aL (xN PassesOwn.never rfl (iL (nD 1)) (xu 3 mJ.nd) (aL (sC (aU qL qp (nB 3) (PE.aC cI) (aE _)) (aY VW) iG)
  (aL (sC (aU gj dW (PE.aC (qU (nL 2) (PE.aC (bj bX bO (nB 3) (PE.aC cI))))) (PE.aC (qU (nL 2) (nB 3))) (aE _)) (aY VW) iG)
  (aY (yh 2 (Zw scl t.aS aT (hr.mono (by decide)) (aA (nB 2) (aA (nB 3) br))) mJ.nd)))))
  (aY (HB 2))))
 exact h
theorem KY(cg:mB P w K mg base 1 t.gq t.gu ["row"] b9):mB P w K mg base 2 t.vz t.vA ["row"] rA:=by
 have h:=qv (P:=P) (w:=w) (base:=base) (k:=1) Gd t.zx fun cdv A outer s H E hr=>
  (aY (jw (ui (Me (N:=["place","row"]) (nt:=1) (caps:=[0]) (ae wN) ["row"] (by decide +kernel)) rfl (BX (iL (PE.eU (zR t.gw cg (hr.mono (by decide)) (az (nD 0) bC))))) (Kp.ok (zb (nt:=1) 0)) (fun _ _ _ _ _=>(xu 0 (by show Nodup (["place","row"]:List Str);decide +kernel))) (fun _ _ _ _ _=>T4) (fun _ _ _ _ _=>(bj bX bO (PE.aC (bj bX bO (PE.aC (fE ck dH t.jf dJ (aA (nB 1) br))) (PE.aC cI))) (nB 0))))))
 exact h
theorem TJ(fx:mB P w K mg base 1 t.iJ t.iK ["n"] cZ):Ud P w K mg base 2 t.D9 t.Ea ["n","word"] AH:=by
 have h:=okT (P:=P) (w:=w) (base:=base) (k:=1) jG t.JL fun cdv A outer s H E hr=>
  (aL (OY 2 OW jG.nd)
  (aL (yh 3 (zR t.fq fx (hr.mono (by decide)) (az (nD 0) bC)) jG.nd)
  (aL (gH 4 GG jG.nd)
  (aL (xN PassesOwn.never rfl (iL (nD 1)) (xu 5 jG.nd) (aL (gH 6 (fE lK o9 t.wY sY (aA (nB 5) br)) jG.nd)
  (aL (sC (qT (aU (dX (aZ.u6 hr)) cD (PE.aC (fE ck dH t.jf dJ (aA (nB 2) br))) (PE.aC cI) (aE _)) (qT (aU (nV (aZ.u6 hr)) kH (nB 4) (PE.aC (FA gj dW (nB 5) (PE.aC cI) (aE _))) (aE _)) (yY (aU gj dW (PE.aC (qU (nL 3) (PE.aC (bj bX bO (nB 6) (PE.aC cI))))) (PE.aC (qU (nL 3) (nB 6))) (aE _))))).pt (aL (O0 2 (nJ bC))
  (aL (yh 3 (zR t.fq fx (hr.mono (by decide)) (az (nD 0) bC)) jG.nd)
  (aY (gH 4 (FA gj dW (nB 5) (PE.aC cI) (aE _)) jG.nd)))) iG)
  (aL (Rt 2 (PE.aC (Hv jj gE (PE.aC cI))) (nB 5))
  (aL (gH 7 (qU (nL 3) (nB 6)) jG.nd)
  (aL (zc 3 (nB 6) (qU (nL 3) (PE.aC (bj bX bO (nB 6) (PE.aC cI)))))
  (aY (zc 3 (PE.aC (bj bX bO (nB 6) (PE.aC cI))) (nD 7)))))))))
  (aY (OZ 2))))))
 exact h
theorem xp(lF:mB P w K mg base 1 t.iU t.iW ["row"] fJ):mB P w K mg base 2 t.iZ t.i6 ["halves","row"] fK:=by
 have h:=qv (P:=P) (w:=w) (base:=base) (k:=1) uO t.lE fun cdv A outer s H E hr=>
  (aL (sC (aU (dX (aZ.u6 hr)) cD (PE.aC (bj gC ee (nB 0) (PE.aC cI))) (PE.aC cI) (aE _)) (aY (jw (Af t.g7 (nL 1)))) iG)
  (aY (jw (zR t.lC lF (hr.mono (by decide)) (az (nD 1) bC)))))
 exact h
theorem xZ(bz:Ok P w K mg base 1 t.cL t.cM ["_law_number","_law_n"] bh):Ok P w K mg base 2 t.jH t.jI ["_law_number","_law_n"] gM:=by
 have h:=Ow (P:=P) (w:=w) (base:=base) (k:=1) jW t.mO fun cdv A outer s H E hr=>
  (aL (gH 2 (Ds DB t.dS bz (hr.mono (by decide)) (aA (nB 0) (aA (nB 1) br))) jW.nd)
  (aL (sC (qT (aU gj dW (PE.aC (bj gC ee (PE.aC (bj kB kE (nB 0) (PE.aC cI))) (PE.aC cI))) (PE.aC cI) (aE _)) (yY (aU qL qp (nB 1) (PE.aC cI) (aE _)))).pt (aY (eY (PE.eU (nJ (az (nD 2) bC))))) iG)
  (aL (gH 3 (YZ (kF (aU qL qp (PE.aC (fE lK o9 t.wY sY (aA (PE.aC (bj cY bw (nB 2) (PE.aC cI))) br))) (nB 1) (aE _)) (qR (aU (nV (aZ.u6 hr)) kH (PE.aC (bj cY bw (nB 2) (PE.aC cI))) (PE.aC cI) (aE _)))).pt (bj cY bw (nB 2) (PE.aC cI)) (bj bX bO (nB 2) (PE.aC cI))) jW.nd)
  (aY (eY (qU (PE.jP (nJ (az (PE.eU (nJ (az (nD 2) (az (nD 3) (az (nD 2) bC))))) (az (PE.eU (nJ (az (nD 2) (az (nD 3) bC)))) (az (PE.eU (nJ (az (nD 2) (az (nD 2) bC)))) (az (PE.eU (nJ (az (nD 2) (az (Hv jj gE (nB 3)) (az (nD 2) bC))))) bC)))))) (PE.aC (bj gC ee (PE.aC (bj kB kE (nB 0) (PE.aC cI))) (PE.aC cI)))))))))
 exact h
theorem zL(bz:Ok P w K mg base 1 t.cL t.cM ["_law_number","_law_n"] bh):Ok P w K mg base 2 t.kT t.kU ["_law_word","_law_n","_law_number","_law_room"] ja:=by
 have h:=Ow (P:=P) (w:=w) (base:=base) (k:=1) lB t.oQ fun cdv A outer s H E hr=>
  (aL (gH 4 (bj gC ee (nB 2) (PE.aC (bj cY bw (PE.aC (fE ck dH t.jf dJ (aA (nB 0) br))) (PE.aC cI)))) lB.nd)
  (aL (gH 5 (PE.eU (gF (nL 0) (pW (nB 4)) (pW (PE.aC (bj cY bw (nB 4) (PE.aC cI)))))) lB.nd)
  (aL (sC (kF (aU gj dW (PE.aC (fE ck dH t.jf dJ (aA (nB 5) br))) (PE.aC cI) (aE _)) (kF (aU (dX (aZ.u6 hr)) cD (PE.aC (qU (nL 5) (PE.aC cI))) (PE.aC (Hv jj gE (PE.aC (qU (nL 5) (PE.aC cI))))) (aE _)) (qR (aU gj dW (PE.aC (bj gC ee (PE.aC (bj kB kE (nB 2) (PE.aC cI))) (PE.aC cI))) (PE.aC cI) (aE _))))).pt (aY (eY (xM (az cS (az (nD 4) bC))))) iG)
  (aL (sC (kF (aU gj dW (PE.aC (fE ck dH t.jf dJ (aA (nB 5) br))) (PE.aC cI) (aE _)) (kF (aU gj dW (PE.aC (fE lK o9 t.wY sY (aA (PE.aC (bj bX bO (PE.aC (fE lK o9 t.wY sY (aA (PE.aC (qU (nL 5) (PE.aC cI))) br))) (PE.aC (fE lK o9 t.wY sY (aA (PE.aC (qU (nL 5) (PE.aC cI))) br))))) br))) (PE.aC cI) (aE _)) (qR (aU gj dW (PE.aC (bj gC ee (PE.aC (bj kB kE (nB 2) (PE.aC cI))) (PE.aC cI))) (PE.aC cI) (aE _))))).pt (aY (eY (xM (az cS (az (nD 4) bC))))) iG)
  (aL (sC (kF (aU gj dW (PE.aC (fE ck dH t.jf dJ (aA (nB 5) br))) (PE.aC cI) (aE _)) (kF (aU (dX (aZ.u6 hr)) cD (PE.aC (qU (nL 5) (PE.aC cI))) (PE.aC (qU (nL 5) (PE.aC cI))) (aE _)) (kF (aU gj dW (PE.aC (bj yR uY (PE.aC (qU (nL 5) (PE.aC cI))) (PE.aC (qU (nL 5) (PE.aC cI))))) (PE.aC cI) (aE _)) (qR (aU (dX (aZ.u6 hr)) cD (PE.aC (fE lK o9 t.wY sY (aA (PE.aC (bj bX bO (PE.aC (qU (nL 5) (PE.aC cI))) (PE.aC (qU (nL 5) (PE.aC cI))))) br))) (PE.aC cI) (aE _)))))).pt (aY (eY (xM (az cS (az (nD 4) bC))))) iG)
  (aL (sC (kF (aU gj dW (nB 1) (PE.aC cI) (aE _)) (qR (aU NR Hz (PE.aC (bj cY bw (PE.aC (fE ck dH t.jf dJ (aA (nB 0) br))) (PE.aC cI))) (nB 3) (aE _)))).pt (aY (eY (xM (az cS (az (nD 4) (az (Ds DB t.dS bz (hr.mono (by decide)) (aA (PE.aC (bj kB kE (nB 2) (PE.aC cI))) (aA (nB 1) br))) bC)))))) iG)
  (aY (eY cN))))))))
 exact h
theorem xq(zM:mB P w K mg base 2 t.vz t.vA ["row"] rA):Ok P w K mg base 3 t.iX t.iY ["row"] iR:=by
 have h:=Ow (P:=P) (w:=w) (base:=base) (k:=2) uN t.lD fun cdv A outer s H E hr=>
  (aY (eY (xM (az (Hv jj gE (PE.aC cI)) (az (PE.eU (zR t.zx zM (hr.mono (by decide)) (az (nD 0) bC))) bC)))))
 exact h
theorem nN(lG:mB P w K mg base 2 t.iZ t.i6 ["halves","row"] fK):Ud P w K mg base 3 t.cT t.cU ["steps"] bf:=by
 have h:=okT (P:=P) (w:=w) (base:=base) (k:=2) bF t.bR fun cdv A outer s H E hr=>
  (aL (OY 1 OW bF.nd)
  (aL (gH 2 cI bF.nd)
  (aL (xN PassesOwn.never rfl (iV t.j0 (nD 0)) (xu 3 bF.nd) (aL (O0 1 (zR t.lE lG (hr.mono (by decide)) (az (nD 2) (az (vW (nD 3) (PE.aC cI)) bC))))
  (aY (Oo 2 G4 (PE.aC (vW (nD 3) (PE.aC cI))) bF.nd))))
  (aL (V6 1)
  (aY (OZ 1))))))
 exact h
theorem x5(bY:Ok P w K mg base 1 t.gg t.gh ["_law_cell","_law_k","_law_factor"] cy)(nc:Ok P w K mg base 2 t.jH t.jI ["_law_number","_law_n"] gM):mB P w K mg base 3 t.jJ t.jK ["_law_cells","_law_n","_law_most"] gO:=by
 have h:=qv (P:=P) (w:=w) (base:=base) (k:=2) fj t.mQ fun cdv A outer s H E hr=>
  (aL (gH 3 (PE.eU (nJ bC)) fj.nd)
  (aL (xN PassesOwn.never rfl (iE t.je (nD 0)) (Xw 2 rfl (kI (xu 4 fj.nd) (kI (xu 5 fj.nd) za))) (aY (sC (aU gj dW (nB 1) (PE.aC cI) (aE _)) (aY (gH 3 (PE.eU (uF (nL 3) (PE.YW (FH t.mO nc (hr.mono (by decide)) (az (Ds DB t.iM bY (hr.mono (by decide)) (aA (nB 5) (aA (nB 4) (aA (PE.aC cI) br)))) (az (nD 1) bC)))))) fj.nd)) iG)))
  (aY (jw (gF (nL 3) GH (pW (nB 2)))))))
 exact h
theorem uT(bY:Ok P w K mg base 1 t.gg t.gh ["_law_cell","_law_k","_law_factor"] cy)(oY:Ok P w K mg base 2 t.kT t.kU ["_law_word","_law_n","_law_number","_law_room"] ja)(oZ:mB P w K mg base 1 t.kW t.kX ["_law_word","_law_deed_here"] i9):Ok P w K mg base 3 t.gY t.gZ ["_law_word","_law_n","_law_cells","_law_room"] fg:=by
 have h:=Ow (P:=P) (w:=w) (base:=base) (k:=2) dC t.jZ fun cdv A outer s H E hr=>
  (aL (xN PassesOwn.never rfl (iE t.je (nD 2)) (Xw 2 rfl (kI (xu 4 dC.nd) (kI (xu 5 dC.nd) za))) (aL (gH 6 (FH t.oQ oY (hr.mono (by decide)) (az (nD 0) (az (nD 1) (az (Ds DB t.iM bY (hr.mono (by decide)) (aA (nB 5) (aA (nB 4) (aA (PE.aC cI) br)))) (az (nD 3) bC))))) dC.nd)
  (aY (sC (aU yS vZ (nB 6) (PE.aC cN) (aE _)) (aY (gH 0 (PE.eU (zR t.oU oZ (hr.mono (by decide)) (az (nD 0) (az (nD 6) bC)))) dC.nd)) iG))))
  (aY (eY (nD 0))))
 exact h
theorem CV(xr:mB P w K mg base 1 t.rL t.rM ["word"] og)(sA:mB P w K mg base 2 t.rR t.rS ["n","word"] lU)(lH:Ok P w K mg base 3 t.iX t.iY ["row"] iR):Ok P w K mg base 4 t.pJ t.pK ["n","piece"] lV:=by
 have h:=Ow (P:=P) (w:=w) (base:=base) (k:=3) AX t.tR fun cdv A outer s H E hr=>
  (aL (sC (aU gj dW (PE.aC (qU (nL 1) (PE.aC cI))) (PE.aC cI) (aE _)) (aY (eY (xM (az cI (az (PE.eU (zR t.rT sA (hr.mono (by decide)) (az (nD 0) (az (nD 1) bC)))) bC))))) iG)
  (aY (eY (FH t.lD lH (hr.mono (by decide)) (az (PE.eU (zR t.rT sA (hr.mono (by decide)) (az (nD 0) (az (PE.eU (zR t.wR xr (hr.mono (by decide)) (az (nD 1) bC))) bC)))) bC)))))
 exact h
theorem zN(bY:Ok P w K mg base 1 t.gg t.gh ["_law_cell","_law_k","_law_factor"] cy)(ng:mB P w K mg base 3 t.jJ t.jK ["_law_cells","_law_n","_law_most"] gO):Ok P w K mg base 4 t.kQ t.kR ["_law_cells","_law_n","_law_most"] jc:=by
 have h:=Ow (P:=P) (w:=w) (base:=base) (k:=3) iT t.oO fun cdv A outer s H E hr=>
  (aL (gH 3 (PE.eU (zR t.mQ ng (hr.mono (by decide)) (az (PE.eU (gF (nL 0) GH (pW (PE.aC cI)))) (az (nD 1) (az cI bC))))) iT.nd)
  (aL (sC (aU NR Hz (PE.aC (fE ck dH t.jf dJ (aA (nB 3) br))) (nB 2) (aE _)) (aY (eY (nD 3))) iG)
  (aL (gH 4 (VY rfl t.JO (PE.jP (ui (Me (N:=["_law_k","_law_cell"]) (nt:=2) (caps:=[]) (ae mK) ["_law_cells","_law_n","_law_most","_law_word","_law_total","_law_at"] (by decide +kernel)) rfl (BX (iE t.je (nD 0))) (Kp.ok (ZA 2 (DA (zb (nt:=2) 0) (DA (zb (nt:=2) 1) Rh)))) (fun _ _ _ _ _=>(Xw 2 rfl (kI (xu 0 (by show Nodup (["_law_k","_law_cell"]:List Str);decide +kernel)) (kI (xu 1 (by show Nodup (["_law_k","_law_cell"]:List Str);decide +kernel)) za)))) (fun _ _ _ _ _=>T4) (fun _ _ _ _ _=>(Ds DB t.iM bY (hr.mono (by decide)) (aA (nB 1) (aA (nB 0) (aA (PE.aC cI) br)))))))) iT.nd)
  (aL (gH 5 (bj gC ee (nB 4) (PE.aC (bj cY bw (PE.aC (bj bX bO (PE.aC (fE ck dH t.jf dJ (aA (nB 3) br))) (nB 2))) (PE.aC cI)))) iT.nd)
  (aY (eY (PE.eU (gF (nL 3) (pW (nB 5)) (pW (PE.aC (bj cY bw (nB 5) (nB 2))))))))))))
 exact h
theorem t8(t9:mB P w K mg base 1 t.pD t.pF ["word"] lR)(KZ:Ud P w K mg base 2 t.D9 t.Ea ["n","word"] AH)(uc:Ok P w K mg base 4 t.pJ t.pK ["n","piece"] lV):Ok P w K mg base 5 t.fY t.fZ ["n","word"] dQ:=by
 have h:=Ow (P:=P) (w:=w) (base:=base) (k:=4) rH t.jt fun cdv A outer s H E hr=>
  (aY (eY (PE.eU (ui (Me (N:=["piece","n"]) (nt:=1) (caps:=[0]) (ae iI) ["n","word"] (by decide +kernel)) rfl (iLS (PE.ZR (fT1 t.JL KZ (hr.mono (by decide)) (aA (nB 0) (aA (PE.aC (PE.eU (zR t.tQ t9 (hr.mono (by decide)) (az (nD 1) bC)))) br))))) (Kp.ok (zb (nt:=1) 0)) (fun _ _ _ _ _=>(xu 0 (by show Nodup (["piece","n"]:List Str);decide +kernel))) (fun _ _ _ _ _=>T4) (fun _ _ _ _ _=>(FH t.tR uc (hr.mono (by decide)) (az (nD 1) (az (nD 0) bC))))))))
 exact h
theorem NH(ju:Ok P w K mg base 9 t.fW t.fX ["n","steps"] dR)(jv:Ok P w K mg base 5 t.fY t.fZ ["n","word"] dQ):Ok P w K mg base 10 t.wV t.wW ["n","word"] gR:=by
 have h:=Ow (P:=P) (w:=w) (base:=base) (k:=9) JI t.qD fun cdv A outer s H E hr=>
  (aY (eY (FH t.jr ju (hr.mono (by decide)) (az (nD 0) (az (FH t.jt jv (hr.mono (by decide)) (az (nD 0) (az (nD 1) bC))) bC)))))
 exact h
theorem NI(ni:Ok P w K mg base 10 t.wV t.wW ["n","word"] gR):Ok P w K mg base 11 t.zy t.zA ["n","one","other"] qC:=by
 have h:=Ox (P:=P) (w:=w) (base:=base) (k:=10) JJ t.wX fun cdv A outer s H E hr=>
  (aY (eY (FA (dX (aZ.u6 hr)) cD (PE.aC (FH t.qD ni (hr.mono (by decide)) (az (nD 0) (az (nD 1) bC)))) (PE.aC (FH t.qD ni (hr.mono (by decide)) (az (nD 0) (az (nD 2) bC)))) (aE _))))
 exact h
theorem TN(ni:Ok P w K mg base 10 t.wV t.wW ["n","word"] gR)(xt:Ok P w K mg base 11 t.zy t.zA ["n","one","other"] qC)(bY:Ok P w K mg base 1 t.gg t.gh ["_law_cell","_law_k","_law_factor"] cy)(kc:Ok P w K mg base 1 t.gU t.gV ["_law_script","_law_k"] dz)(kg:Ok P w K mg base 1 t.gW t.gX ["_law_seed","_law_least","_law_most"] eZ)(bz:Ok P w K mg base 1 t.cL t.cM ["_law_number","_law_n"] bh)(o4:Ok P w K mg base 4 t.kQ t.kR ["_law_cells","_law_n","_law_most"] jc)(kh:Ok P w K mg base 3 t.gY t.gZ ["_law_word","_law_n","_law_cells","_law_room"] fg)(g9:Ok P w K mg base 1 t.g4 t.g5 ["_law_found","_law_n"] cA):Ok P w K mg base 12 t.JM t.Eb ["_law_script"] wK:=by
 have h:=Ox (P:=P) (w:=w) (base:=base) (k:=11) kP t.O9 fun cdv A outer s H E hr=>
  (aL (gH 1 (bj gC ee (PE.aC (Ds DB t.jX kc (hr.mono (by decide)) (aA (nB 0) (aA (PE.aC cI) br)))) (PE.aC (bj Qs LV (PE.aC cI) (PE.aC cI)))) kP.nd)
  (aL (gH 2 (Ds DB t.jY kg (hr.mono (by decide)) (aA (nB 1) (aA (PE.aC cI) (aA (PE.aC cI) br)))) kP.nd)
  (aL (gH 3 (FH t.oO o4 (hr.mono (by decide)) (az (nD 0) (az (nD 2) (az (YZ (aU qL qp (nB 2) (PE.aC cI) (aE _)) cI cI) bC)))) kP.nd)
  (aL (gH 4 (FH t.jZ kh (hr.mono (by decide)) (az (nD 3) (az (nD 2) (az (nD 0) (az (YZ (aU qL qp (nB 2) (PE.aC cI) (aE _)) cI cI) bC))))) kP.nd)
  (aL (gH 5 (xM (az (PE.eU (Af t.g7 (nL 3))) (az (PE.eU (Af t.g7 (nL 4))) bC))) kP.nd)
  (aL (gH 6 (FH t.qD ni (hr.mono (by decide)) (az (nD 2) (az (vW (nD 5) (PE.aC cI)) bC))) kP.nd)
  (aL (sC (qT (vV (yZ (PE.aC (Ds DB t.g6 g9 (hr.mono (by decide)) (aA (nB 6) (aA (nB 2) br)))))) (yY (vV (yZ (PE.aC (Ds DB t.g6 g9 (hr.mono (by decide)) (aA (PE.aC (FH t.qD ni (hr.mono (by decide)) (az (nD 2) (az (vW (nD 5) (PE.aC cI)) bC)))) (aA (nB 2) br)))))))).pt (aY (eY GG)) iG)
  (aL (sC (qT (aU (nV (aZ.u6 hr)) kH (PE.aC (FH t.qD ni (hr.mono (by decide)) (az (nD 2) (az (vW (nD 5) (PE.aC cI)) bC)))) (nB 6) (aE _)) (qT (aU H0 FN (PE.aC (Ds DB t.wX xt (hr.mono (by decide)) (aA (nB 2) (aA (PE.aC (vW (nD 5) (PE.aC cI))) (aA (PE.aC (vW (nD 5) (PE.aC cI))) br))))) (PE.aC GG) (aE _)) (yY (aU (nV (aZ.u6 hr)) kH (nB 5) (PE.aC (xM (az (nD 3) (az (nD 4) bC)))) (aE _))))).pt (aY (eY GG)) iG)
  (aL (sC (aU (dX (aZ.u6 hr)) cD (nB 2) (PE.aC cI) (aE _)) (aY (eY (FA (dX (aZ.u6 hr)) cD (nB 6) (PE.aC (xM (az cI (az (PE.eU (nJ bC)) bC)))) (aE _)))) iG)
  (aL (gH 7 (Ds DB t.dS bz (hr.mono (by decide)) (aA (PE.aC (Ds DB t.iM bY (hr.mono (by decide)) (aA (nB 1) (aA (PE.aC cI) (aA (PE.aC cI) br))))) (aA (nB 2) br))) kP.nd)
  (aY (eY (YY (PE.aC (FA OV Ia (PE.aC (Ds DB t.wX xt (hr.mono (by decide)) (aA (nB 2) (aA (PE.aC (PE.eU (uF (nL 3) (PE.jP (nJ (az (nD 7) bC)))))) (aA (PE.aC (PE.eU (Af t.g7 (nL 4)))) br))))) (PE.aC GG) (aE _))) (YX (FA OV Ia (PE.aC (Ds DB t.wX xt (hr.mono (by decide)) (aA (nB 2) (aA (PE.aC (PE.eU (Af t.g7 (nL 3)))) (aA (PE.aC (PE.eU (uF (nL 4) (PE.jP (nJ (az (nD 7) bC)))))) br))))) (PE.aC GG) (aE _))))))))))))))))
 exact h
end
@[irreducible] noncomputable def Kw (w:World):PySem.W.Frag:=H.K w.params
theorem PV(w:World):Kw w=H.K w.params:=by kernel_rfl
theorem pT{K:PySem.W.Frag}{h:Heap}{mg:Str->Option Value}{x:String}{st:Stmt}{ps:List Str}{f c:Addr}{m:Value}(X:K.In h)(G:h.Ns mainGlobals mg)
  (e:(nsIn K mainGlobals (Str.ofString x),K.lookup f,codeIn K (.ref c) (Str.ofString x),keepIn K (.ref f))=(some (some (.ref f)),some (DL.H.hf (Str.ofString x) (Str.ofString x) st m c),true,true))
  (hb:∀(kV doc pm:Value)(an:Option Addr)(cdv ct:Value)(us:List Value),us.length=ps.length->bindArgs (PySem.W.fnOf (Str.ofString x) (Str.ofString x) (ed st) (bH st) (ae st) .none kV doc pm an cdv ct) ⟨us,[]⟩=pure (ps.zip us)):
  Df K mg (Str.ofString x) st ps f (PySem.W.fnOf (Str.ofString x) (Str.ofString x) (ed st) (bH st) (ae st) .none .none .none m none (.ref c) .none):=dfm X G (congrArg (·.1) e) (congrArg (·.2.1) e) (congrArg (·.2.2.1) e) (congrArg (·.2.2.2) e) hb
theorem E5{x q:Str}{a:Arguments}{b:List Stmt}{s:Scope}{p0:Str}(h:∀(kV doc pm:Value)(an:Option Addr)(cdv ct v0:Value),bindArgs (PySem.W.fnOf x q a b s .none kV doc pm an cdv ct) ⟨[v0],[]⟩=pure [(p0,v0)])(kV doc pm:Value)(an:Option Addr)(cdv ct:Value)(us:List Value)(hl:us.length=[p0].length):bindArgs (PySem.W.fnOf x q a b s .none kV doc pm an cdv ct) ⟨us,[]⟩=pure ([p0].zip us):=match us,hl with|[v0],_=>h _ _ _ _ _ _ _
theorem Bs{x q:Str}{a:Arguments}{b:List Stmt}{s:Scope}{p0 p1:Str}(h:∀(kV doc pm:Value)(an:Option Addr)(cdv ct v0 v1:Value),bindArgs (PySem.W.fnOf x q a b s .none kV doc pm an cdv ct) ⟨[v0,v1],[]⟩=pure [(p0,v0),(p1,v1)])(kV doc pm:Value)(an:Option Addr)(cdv ct:Value)(us:List Value)(hl:us.length=[p0,p1].length):bindArgs (PySem.W.fnOf x q a b s .none kV doc pm an cdv ct) ⟨us,[]⟩=pure ([p0,p1].zip us):=match us,hl with|[v0,v1],_=>h _ _ _ _ _ _ _ _
theorem NJ{x q:Str}{a:Arguments}{b:List Stmt}{s:Scope}{p0 p1 p2:Str}(h:∀(kV doc pm:Value)(an:Option Addr)(cdv ct v0 v1 v2:Value),bindArgs (PySem.W.fnOf x q a b s .none kV doc pm an cdv ct) ⟨[v0,v1,v2],[]⟩=pure [(p0,v0),(p1,v1),(p2,v2)])(kV doc pm:Value)(an:Option Addr)(cdv ct:Value)(us:List Value)(hl:us.length=[p0,p1,p2].length):bindArgs (PySem.W.fnOf x q a b s .none kV doc pm an cdv ct) ⟨us,[]⟩=pure ([p0,p1,p2].zip us):=match us,hl with|[v0,v1,v2],_=>h _ _ _ _ _ _ _ _ _
theorem bd4{x q:Str}{a:Arguments}{b:List Stmt}{s:Scope}{p0 p1 p2 p3:Str}(h:∀(kV doc pm:Value)(an:Option Addr)(cdv ct v0 v1 v2 v3:Value),bindArgs (PySem.W.fnOf x q a b s .none kV doc pm an cdv ct) ⟨[v0,v1,v2,v3],[]⟩=pure [(p0,v0),(p1,v1),(p2,v2),(p3,v3)])(kV doc pm:Value)(an:Option Addr)(cdv ct:Value)(us:List Value)(hl:us.length=[p0,p1,p2,p3].length):bindArgs (PySem.W.fnOf x q a b s .none kV doc pm an cdv ct) ⟨us,[]⟩=pure ([p0,p1,p2,p3].zip us):=match us,hl with|[v0,v1,v2,v3],_=>h _ _ _ _ _ _ _ _ _ _
theorem PX(K:PySem.W.Frag){C:Addr}{x q:String}{st:Stmt}{f c:Addr}{m:Value}
  (e:(findIn K (.ref C) (Str.ofString x),isFn K (.ref f),K.lookup f,codeIn K (.ref c) (Str.ofString q),keepIn K (.ref f))=(some (some (.ref f)),true,some (DL.H.hf (Str.ofString x) (Str.ofString q) st m c),true,true)):
  z8 K (Str.ofString x) (Str.ofString q) st f (PySem.W.fnOf (Str.ofString x) (Str.ofString q) (ed st) (bH st) (ae st) .none .none .none m none (.ref c) .none)/\Meth K C (Str.ofString x) f:=
 ⟨BU (congrArg (·.2.2.1) e) (congrArg (·.2.2.2.1) e) (congrArg (·.2.2.2.2) e),congrArg (·.1) e,congrArg (·.2.1) e,congrArg (·.2.2.2.2) e⟩
theorem all_mk{l:PySem.W.OpenLaw}{w:World}{h:Heap}{mg:Str->Option Value}{fa:Addr}(X:(Kw w).In h)(G:h.Ns mainGlobals mg)(hfa:mg "law"=some (.ref fa)):
  ∃fd:FuncData,(∀(s:Shared)(v:Value),BindsTo s fd ⟨[v],[]⟩ [("_law_script",v)])/\∀base:Heap,(Kw w).In base->base.Ns mainGlobals mg->cu l.prog w (Kw w) mg base kC 12 fa fd ["_law_script"] (Dh (Kw w) GK wK):=by
 have e:=hfa.symm.trans (mg_of X G (show nsIn (Kw w) mainGlobals "law"=some (some (.ref 329))by kernel_rfl))
 cases e
 have yC:nsIn (Kw w) mainGlobals "Comb"=some (some (.ref 186)):=by kernel_rfl
 have ypg:plainGet (Kw w) 186 Str.empty=true:=by kernel_rfl
 have yhd:hasDictIn (Kw w) 186=true:=by kernel_rfl
 have ypo:plainOver (Kw w) 186=true:=by kernel_rfl
 have ysa:findIn (Kw w) (.ref 186) "__setattr__"=some (some (.builtin "object.__setattr__")):=by kernel_rfl
 have ymk:makesIn (Kw w) 186=true:=by kernel_rfl
 have ykc:keepIn (Kw w) (.ref 186)=true:=by kernel_rfl
 have yn0:findIn (Kw w) (.ref 186) "known"=some none:=by kernel_rfl
 have yn1:findIn (Kw w) (.ref 186) "numbers"=some none:=by kernel_rfl
 have yn2:findIn (Kw w) (.ref 186) "firsts"=some none:=by kernel_rfl
 have yn3:findIn (Kw w) (.ref 186) "lasts"=some none:=by kernel_rfl
 have yn4:findIn (Kw w) (.ref 186) "shorter"=some none:=by kernel_rfl
 have yn5:findIn (Kw w) (.ref 186) "longer"=some none:=by kernel_rfl
 have yn6:findIn (Kw w) (.ref 186) "kept"=some none:=by kernel_rfl
 have yn7:findIn (Kw w) (.ref 186) "line"=some none:=by kernel_rfl
 have yn8:findIn (Kw w) (.ref 186) "none"=some none:=by kernel_rfl
 have yn9:findIn (Kw w) (.ref 186) "whole"=some none:=by kernel_rfl
 let t:Tb (Kw w) mg:={rL:=44,rM:=_,wR:=pT X G (c:=43) (m:=H.w1) (by kernel_rfl) (E5 fun _ _ _ _ _ _ _=>rfl),pD:=51,pF:=_,tQ:=pT X G (c:=50) (m:=H.w1) (by kernel_rfl) (E5 fun _ _ _ _ _ _ _=>rfl),iJ:=58,iK:=_,fq:=pT X G (c:=57) (m:=H.w2) (by kernel_rfl) (E5 fun _ _ _ _ _ _ _=>rfl),zt:=65,zu:=_,wU:=pT X G (c:=64) (m:=H.w2) (by kernel_rfl) (E5 fun _ _ _ _ _ _ _=>rfl),gq:=72,gu:=_,gw:=pT X G (c:=71) (m:=H.w2) (by kernel_rfl) (E5 fun _ _ _ _ _ _ _=>rfl),rN:=77,rO:=_,pG:=pT X G (c:=76) (m:=H.w2) (by kernel_rfl) (E5 fun _ _ _ _ _ _ _=>rfl),rP:=84,rQ:=_,oN:=pT X G (c:=83) (m:=H.w2) (by kernel_rfl) (E5 fun _ _ _ _ _ _ _=>rfl),bp:=91,bq:=_,aS:=pT X G (c:=90) (m:=H.w2) (by kernel_rfl) (Bs fun _ _ _ _ _ _ _ _=>rfl),cG:=98,cH:=_,bJ:=pT X G (c:=97) (m:=H.w2) (by kernel_rfl) (Bs fun _ _ _ _ _ _ _ _=>rfl),rR:=105,rS:=_,rT:=pT X G (c:=104) (m:=H.w2) (by kernel_rfl) (Bs fun _ _ _ _ _ _ _ _=>rfl),vz:=110,vA:=_,zx:=pT X G (c:=109) (m:=H.w2) (by kernel_rfl) (E5 fun _ _ _ _ _ _ _=>rfl),iU:=115,iW:=_,lC:=pT X G (c:=114) (m:=H.w2) (by kernel_rfl) (E5 fun _ _ _ _ _ _ _=>rfl),pH:=122,pI:=_,gx:=pT X G (c:=121) (m:=H.w3) (by kernel_rfl) (E5 fun _ _ _ _ _ _ _=>rfl),D9:=197,Ea:=_,JL:=pT X G (c:=196) (m:=H.w4) (by kernel_rfl) (Bs fun _ _ _ _ _ _ _ _=>rfl),iX:=204,iY:=_,lD:=pT X G (c:=203) (m:=H.w4) (by kernel_rfl) (E5 fun _ _ _ _ _ _ _=>rfl),pJ:=211,pK:=_,tR:=pT X G (c:=210) (m:=H.w4) (by kernel_rfl) (Bs fun _ _ _ _ _ _ _ _=>rfl),iZ:=218,i6:=_,lE:=pT X G (c:=217) (m:=H.w4) (by kernel_rfl) (Bs fun _ _ _ _ _ _ _ _=>rfl),cT:=225,cU:=_,bR:=pT X G (c:=224) (m:=H.w4) (by kernel_rfl) (E5 fun _ _ _ _ _ _ _=>rfl),fW:=230,fX:=_,jr:=pT X G (c:=229) (m:=H.w4) (by kernel_rfl) (Bs fun _ _ _ _ _ _ _ _=>rfl),fY:=235,fZ:=_,jt:=pT X G (c:=234) (m:=H.w4) (by kernel_rfl) (Bs fun _ _ _ _ _ _ _ _=>rfl),wV:=242,wW:=_,qD:=pT X G (c:=241) (m:=H.w4) (by kernel_rfl) (Bs fun _ _ _ _ _ _ _ _=>rfl),zy:=249,zA:=_,wX:=pT X G (c:=248) (m:=H.w4) (by kernel_rfl) (NJ fun _ _ _ _ _ _ _ _ _=>rfl),gg:=256,gh:=_,iM:=pT X G (c:=255) (m:=H.w5) (by kernel_rfl) (NJ fun _ _ _ _ _ _ _ _ _=>rfl),gU:=263,gV:=_,jX:=pT X G (c:=262) (m:=H.w5) (by kernel_rfl) (Bs fun _ _ _ _ _ _ _ _=>rfl),gW:=270,gX:=_,jY:=pT X G (c:=269) (m:=H.w5) (by kernel_rfl) (NJ fun _ _ _ _ _ _ _ _ _=>rfl),cL:=277,cM:=_,dS:=pT X G (c:=276) (m:=H.w5) (by kernel_rfl) (Bs fun _ _ _ _ _ _ _ _=>rfl),jH:=284,jI:=_,mO:=pT X G (c:=283) (m:=H.w5) (by kernel_rfl) (Bs fun _ _ _ _ _ _ _ _=>rfl),jJ:=291,jK:=_,mQ:=pT X G (c:=290) (m:=H.w5) (by kernel_rfl) (NJ fun _ _ _ _ _ _ _ _ _=>rfl),kQ:=296,kR:=_,oO:=pT X G (c:=295) (m:=H.w5) (by kernel_rfl) (NJ fun _ _ _ _ _ _ _ _ _=>rfl),kT:=303,kU:=_,oQ:=pT X G (c:=302) (m:=H.w5) (by kernel_rfl) (bd4 fun _ _ _ _ _ _ _ _ _ _=>rfl),kW:=310,kX:=_,oU:=pT X G (c:=309) (m:=H.w5) (by kernel_rfl) (Bs fun _ _ _ _ _ _ _ _=>rfl),gY:=317,gZ:=_,jZ:=pT X G (c:=316) (m:=H.w5) (by kernel_rfl) (bd4 fun _ _ _ _ _ _ _ _ _ _=>rfl),g4:=322,g5:=_,g6:=pT X G (c:=321) (m:=H.w5) (by kernel_rfl) (Bs fun _ _ _ _ _ _ _ _=>rfl),JM:=329,Eb:=_,O9:=pT X G (c:=328) (m:=H.w5) (by kernel_rfl) (E5 fun _ _ _ _ _ _ _=>rfl),wY:=mg_none_of X G (by kernel_rfl),Cy:=mg_none_of X G (by kernel_rfl),je:=mg_none_of X G (by kernel_rfl),JN:=mg_none_of X G (by kernel_rfl),cV:=mg_none_of X G (by kernel_rfl),jf:=mg_none_of X G (by kernel_rfl),g7:=mg_none_of X G (by kernel_rfl),Pb:=mg_none_of X G (by kernel_rfl),kY:=mg_none_of X G (by kernel_rfl),j0:=mg_none_of X G (by kernel_rfl),AY:=mg_none_of X G (by kernel_rfl),JO:=mg_none_of X G (by kernel_rfl),zB:=mg_none_of X G (by kernel_rfl),rV:=319,rW:=mg_of X G (by kernel_rfl)}
 refine⟨_,fun s v=>(?_:BindsTo s t.Eb ⟨[v],[]⟩ [("_law_script",v)]),fun base _ _=>?_⟩
 ·exact .of_eq rfl
 have xr:= @Gx l.prog w (Kw w) mg base t
 have t9:= @CT l.prog w (Kw w) mg base t
 have fx:= @Bq l.prog w (Kw w) mg base t
 have TQ:= @NG l.prog w (Kw w) mg base t
 have cg:= @zJ l.prog w (Kw w) mg base t
 have pL:= @KW l.prog w (Kw w) mg base t
 have aT:= @mj l.prog w (Kw w) mg base t
 have lF:= @xo l.prog w (Kw w) mg base t
 have GA:= @CU l.prog w (Kw w) mg base t
 have bY:= @Br l.prog w (Kw w) mg base t
 have kc:= @uQ l.prog w (Kw w) mg base t
 have kg:= @uR l.prog w (Kw w) mg base t
 have bz:= @tZ l.prog w (Kw w) mg base t
 have oZ:= @zK l.prog w (Kw w) mg base t
 have g9:= @uS l.prog w (Kw w) mg base t
 have wZ:= @Gy l.prog w (Kw w) mg base t cg pL
 have nP:= @m9 l.prog w (Kw w) mg base t cg aT
 have sA:= @Gz l.prog w (Kw w) mg base t fx aT
 have zM:= @KY l.prog w (Kw w) mg base t cg
 have KZ:= @TJ l.prog w (Kw w) mg base t fx
 have lG:= @xp l.prog w (Kw w) mg base t lF
 have nc:= @xZ l.prog w (Kw w) mg base t bz
 have oY:= @zL l.prog w (Kw w) mg base t bz
 have lH:= @xq l.prog w (Kw w) mg base t zM
 have o5:= @nN l.prog w (Kw w) mg base t lG
 have ng:= @x5 l.prog w (Kw w) mg base t bY nc
 have kh:= @uT l.prog w (Kw w) mg base t bY oY oZ
 have uc:= @CV l.prog w (Kw w) mg base t xr sA lH
 have o4:= @zN l.prog w (Kw w) mg base t bY ng
 have jv:= @t8 l.prog w (Kw w) mg base t t9 KZ uc
 have TC:Lc (Kw w) mg 186:=⟨⟨ypg,yhd,ypo,ysa⟩,yn0,yn1,yn2,yn3,yn4,yn5,yn6,yn7,yn8,yn9,mg_of X G yC,t.zB,t.g7,t.jf⟩
 have⟨YF0,Xb⟩:=PX (Kw w) (C:=186) (x:="__init__") (q:="Comb.__init__") (st:=CB) (f:=136) (c:=135) (m:=H.w3) (by kernel_rfl)
 have YB0:=YF0.binds (ps:=["self","n"]) (Bs fun _ _ _ _ _ _ _ _=>rfl)
 have⟨YF1,abo⟩:=PX (Kw w) (C:=186) (x:="number_of") (q:="Comb.number_of") (st:=JP) (f:=143) (c:=142) (m:=H.w3) (by kernel_rfl)
 have X4:=YF1.binds (ps:=["self","row"]) (Bs fun _ _ _ _ _ _ _ _=>rfl)
 have X5:=abo
 have⟨YF2,abp⟩:=PX (Kw w) (C:=186) (x:="without_first") (q:="Comb.without_first") (st:=JR) (f:=150) (c:=149) (m:=H.w3) (by kernel_rfl)
 have YB2:=YF2.binds (ps:=["self","number","k"]) (NJ fun _ _ _ _ _ _ _ _ _=>rfl)
 have YM2:=abp
 have⟨YF3,abq⟩:=PX (Kw w) (C:=186) (x:="with_last") (q:="Comb.with_last") (st:=JT) (f:=157) (c:=156) (m:=H.w3) (by kernel_rfl)
 have YB3:=YF3.binds (ps:=["self","number","k"]) (NJ fun _ _ _ _ _ _ _ _ _=>rfl)
 have YM3:=abq
 have⟨YF4,abr⟩:=PX (Kw w) (C:=186) (x:="slide") (q:="Comb.slide") (st:=JU) (f:=164) (c:=163) (m:=H.w3) (by kernel_rfl)
 have YB4:=YF4.binds (ps:=["self","one","other"]) (NJ fun _ _ _ _ _ _ _ _ _=>rfl)
 have YM4:=abr
 have⟨YF5,abt⟩:=PX (Kw w) (C:=186) (x:="slide_kept") (q:="Comb.slide_kept") (st:=JV) (f:=171) (c:=170) (m:=H.w3) (by kernel_rfl)
 have YB5:=YF5.binds (ps:=["self","one","other"]) (NJ fun _ _ _ _ _ _ _ _ _=>rfl)
 have YM5:=abt
 have⟨YF6,abu⟩:=PX (Kw w) (C:=186) (x:="put") (q:="Comb.put") (st:=JW) (f:=178) (c:=177) (m:=H.w3) (by kernel_rfl)
 have YB6:=YF6.binds (ps:=["self","row"]) (Bs fun _ _ _ _ _ _ _ _=>rfl)
 have YM6:=abu
 have⟨YF7,abv⟩:=PX (Kw w) (C:=186) (x:="form_told") (q:="Comb.form_told") (st:=Ed) (f:=183) (c:=182) (m:=H.w3) (by kernel_rfl)
 have YB7:=YF7.binds (ps:=["self"]) (E5 fun _ _ _ _ _ _ _=>rfl)
 have YM7:=abv
 have X6:=SY (P:=l.prog) (w:=w) (base:=base) YF1 TC t wZ pL GA MY
 have YG2:=Wm (P:=l.prog) (w:=w) (base:=base) YF2 TC t X5 X4 X6 nP
 have YG3:=Wq (P:=l.prog) (w:=w) (base:=base) YF3 TC t X5 X4 X6 aT
 have YG4:=Wr (P:=l.prog) (w:=w) (base:=base) YF4 TC YM2 YB2 YG2 YM3 YB3 YG3
 have YG5:=Ww (P:=l.prog) (w:=w) (base:=base) YF5 TC t YM4 YB4 YG4
 have YG6:=WA (P:=l.prog) (w:=w) (base:=base) YF6 TC X5 X4 X6 YM5 YB5 YG5
 have YG7:=WE (P:=l.prog) (w:=w) (base:=base) YF7 TC
 have YG0:=WH (P:=l.prog) (w:=w) (base:=base) YF0 TC t X5 X4 X6 fx TQ (fun n hn=>kZ n hn) (fun n hn=>M0 n hn) MZ nE
 have ju:=Th (P:=l.prog) (w:=w) (base:=base) TC ⟨_,_,_,_,_,_,⟨ymk,Xb.1,Xb.2,ykc⟩,YB0,YG0,YM6,YB6,YG6,YM7,YB7,YG7⟩ t o5
 have ni:= @NH l.prog w (Kw w) mg base t ju jv
 have xt:= @NI l.prog w (Kw w) mg base t ni
 have Xc:= @TN l.prog w (Kw w) mg base t ni xt bY kc kg bz o4 kh g9
 exact Xc
theorem walk{l:PySem.W.OpenLaw}{q:Program}{loose:List Str}{XP:(Str->Option Value)->Heap->Prop}{YP:World->Heap->Prop}{d:DefRec}{K:Params->PySem.W.Frag}(hn:l.most=some 63)(U8:d.params.defaults=[])
  (hY:∀(w:World)(h:Heap),YP w h->(K w.params).In h)
  (F:∀(w:World)(mg:Str->Option Value)(fa:Addr)(h:Heap),(K w.params).In h->h.Ns mainGlobals mg->mg d.name=some (.ref fa)->
   ∃fd:FuncData,(∀(s:Shared)(u:Value),BindsTo s fd ⟨[u],[]⟩ [("_law_script",u)])/\∀base:Heap,(K w.params).In base->base.Ns mainGlobals mg->cu l.prog w (K w.params) mg base kC 12 fa fd ["_law_script"] (Dh (K w.params) GK wK)):
  PySem.W.WalkO q loose XP YP l.row.toRowW d [] (fun f vs=>PySem.call f vs):=
 L2.LL (n:=63) (k:=12) (x:="_law_script") (CX:=fun _=>kC) (sp:=fun w=>Dh (K w.params) GK wK) hn (by decide) U8 ⟨rfl,by decide,by decide⟩ hY F (fun w H a ns hl _ hS=>TH ns hl hS) fun _ _ _ _ _ z=>z
end DL.oH
open PySem PySem.W PyProof.Rows
set_option maxRecDepth 100000 in
set_option maxHeartbeats 0 in
theorem PySem.Challenge.cw_braidcomb_k32_one_form_by_exchanges_holds : PySem.Challenge.rw_braidcomb_k32_one_form_by_exchanges.Holds := by
 w_on
 refine holds_law (l:=PySem.Challenge.rw_braidcomb_k32_one_form_by_exchanges) (by kernel_rfl) fun said=>?_
 refine holds_open (q:=DL.oH.H.q) (Xt:=DL.oH.H.Xt) (XP:=XL DL.oH.H.q []) (Yf:=DL.oH.H.hk.obs) (Ya:=DL.oH.H.hk.val) (YP:=DL.oH.H.hk.says) DL.oH.H.left DL.oH.H.hk.of DL.oH.H.hk.keeps (fun s e=>xl_of s (Bool.and_eq_true_iff.mp e).1) XL.keeps (by rfl) (by rfl) (by rfl) (fun s e=>recFacts_of (Bool.and_eq_true_iff.mp e).2) (by rfl) said (by decide +kernel) ⟨rfl,rfl,rfl,rfl,rfl,by decide +kernel⟩ ?hw ?hc
 case hw=>w_witness2
 refine DL.oH.walk (l:=PySem.Challenge.rw_braidcomb_k32_one_form_by_exchanges) rfl rfl (fun w h Y=>kIn_of Y) ?F
 case F=>
  intro w mg fa h KX G hmg
  have hh:=DL.oH.all_mk (l:=PySem.Challenge.rw_braidcomb_k32_one_form_by_exchanges) ((DL.oH.PV w).symm▸KX) G hmg
  rw[DL.oH.PV w]at hh
  exact hh
