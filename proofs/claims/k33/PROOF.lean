import PyProof.Rows.All
import Wide.All
import OpenK.AllK
import Wide.FinOn
import Lean
import PyProof.EqAt
import PyProof.EqKinds
import PyProof.TupleCall
import PyProof.NeKinds
import PyProof.ListRange
import OpenK.KOwn
import KE.KTryMore
import KE.KSorted
import KE.KSort
import PyProof.Rows.SortWalk
import PyProof.SeqI3
import PyProof.Rows.SumAny
import PyProof.Rows.SeqMore2
import KE.KListMore
import PyProof.Rows.Range3
import PyProof.Cells
import KE.KTabLook
import PyProof.SliceStr2
import PyProof.StrBlockI
import PyProof.Rows.FStr
import PyProof.Rows.StrNews2
import PyProof.ListStr
import PyProof.Rows.StrStep
import PyProof.Rows.StrJoinStr
import PyProof.AutoSeq1
import PyProof.ListRange
import KE.KRevIter
import PyProof.CollectIter
import PyProof.FactsAll.range_iterator_1
import PyProof.Rows.RuleM_int
import PyProof.FactsAll.int_6
import OpenK.AllK
import PySem.Challenge.RW_braidcomb_k33_forms_words
open PySem.W (instObj methodObj lookIn plainGet hasDictIn findIn handedIn plainGet_of isFn plainOver takerIn Looks makesIn typeIn emptyDict keepIn mroIn kitOne kia_one kitx_list kitx_tuple kitx_dict callWith_K methodCall_KW cellsFrom_some codeIn nsIn mg_of mg_none_of kIn_of)
open Nat (lt_of_lt_of_le ne_of_lt le_trans ne_of_gt zero_le le_of_eq lt_succ_self le_succ succ_mul lt_trans le_add_right min_eq_left sub_self reduceAdd reduceSub reduceEqDiff ble lt_or_ge)
open List (range mem_filter mem_range mem_cons_self mem_cons_of_mem mem_cons mem_append mem_append_left getElem?_set_self getElem?_set_ne mem_append_right size_toArray length_cons map_cons length_map append_nil nodup_cons of_mem_zip replicate length length_take getElem?_append_right getElem?_replicate getElem?_append_left getElem?_map mem_of_getElem? length_append length_replicate map_nil length_drop length_set reverse_cons replicate_succ flatten_cons foldl foldl_cons length_singleton length_reverse nil_append Pairwise find?_cons any_cons cons_append length_nil getElem_of_mem getElem?_eq_getElem dropLast_eq_take drop_zero drop_length lookup_cons not_mem_nil getElem?_reverse range' range'_succ length_range map_drop map_map map_append take_length take_of_length_le map_set map_reverse replicate_zero getElem_idxOf mem_reverse reverse_perm mem_singleton range_succ flatten_append flatten_nil mem_flatten mem_map mem_of_mem_take take_succ reverse map pairwise_map Nodup Perm getElem?_eq_none sum_append sum_cons length_zipIdx map_congr_left map_dropLast mem_of_getLast? reverse_append foldl_append reverse_reverse getElem_mem mem_replicate map_id append_eq_nil_iff)
open Array (toList)
open Int (toNat_natCast emod_nonneg emod_lt_of_pos natCast_zero)
open Option (getD_none map_some isSome_map)
open PySem.F (slot_dict_get entry_dict_get plainAttrs_list slot_list_pop type_list_pop slot_range_reversed slot_dict_len)
open Classical (propDecidable byContradiction)
open Bool (and_eq_true false_eq_true or_eq_true)
noncomputable section
set_option Elab.async false
set_option linter.all false
set_option maxRecDepth 100000
namespace L2
open PySem PySem.Spec PyProof.Rows
abbrev Key:=Sum Int Str
def yx:Key->Value->Bool
 |.inl k,v=>Value.isInt k v
 |.inr x,v=>Value.isStrOf x v
def YG(w:World):Key->Int
 |.inl k=>hashInt k
 |.inr x=>hashStr w x
theorem cH:∀{k:Key}{v:Value},yx k v=true->(∃i t,k=Sum.inl i/\v=Value.int i t)\/(∃x t,k=Sum.inr x/\v=Value.str x t)
 |.inl i,v,h=>by
  obtain⟨t,e⟩:=Value.isInt_shape (k:=i) (v:=v) h
  exact .inl ⟨i,t,rfl,e⟩
 |.inr x,v,h=>by
  obtain⟨t,e⟩:=Value.isStrOf_shape (x:=x) (v:=v) h
  exact .inr ⟨x,t,rfl,e⟩
theorem FY(i:Int)(t:Tok):yx (.inl i) (.int i t)=true:=by simp[yx,Value.isInt]
theorem FZ(x:Str)(t:Tok):yx (.inr x) (.str x t)=true:=by simp[yx,Value.isStrOf]
theorem Qi(a b:Int):decide ((Sum.inl a:Key)=Sum.inl b)=(a==b):=by
 by_cases e:a=b
 ·subst e;simp
 ·have h:¬(Sum.inl a:Key)=Sum.inl b:=fun q=>e (Sum.inl.inj q)
  rw[decide_eq_false h]
  exact(beq_eq_false_iff_ne.mpr e).symm
theorem Qj(a b:Str):decide ((Sum.inr a:Key)=Sum.inr b)=decide (a=b):=by
 by_cases e:a=b
 ·subst e;simp
 ·have h:¬(Sum.inr a:Key)=Sum.inr b:=fun q=>e (Sum.inr.inj q)
  rw[decide_eq_false h,decide_eq_false e]
theorem Qk(a:Int)(b:Str):decide ((Sum.inl a:Key)=Sum.inr b)=false:=decide_eq_false (fun q=>nomatch q)
theorem Ql(a:Str)(b:Int):decide ((Sum.inr a:Key)=Sum.inl b)=false:=decide_eq_false (fun q=>nomatch q)
def cW(prog:Program)(w:World):PySem.KeyKind prog w Key where
 is:=yx
 hash:=YG w
 inj:=fun v a b ha hb=>by
  rcases cH ha with⟨i,t,rfl,rfl⟩|⟨x,t,rfl,rfl⟩
  ·rcases cH hb with⟨j,u,rfl,e⟩|⟨y,u,rfl,e⟩
   ·injection e with e1 _;rw[e1]
   ·exact nomatch e
  ·rcases cH hb with⟨j,u,rfl,e⟩|⟨y,u,rfl,e⟩
   ·exact nomatch e
   ·injection e with e1 _;rw[e1]
 byValue:=fun k v h=>by
  rcases cH h with⟨i,t,rfl,rfl⟩|⟨x,t,rfl,rfl⟩<;>rfl
 pyHash:=fun hv h=>by
  rcases cH hv with⟨i,t,rfl,rfl⟩|⟨x,t,rfl,rfl⟩
  ·exact wpAny_pyHash_int h
  ·exact wpAny_pyHash_str h
 eqBool:=fun hu hv h=>by
  rcases cH hu with⟨i,t,rfl,rfl⟩|⟨x,t,rfl,rfl⟩
  ·rcases cH hv with⟨j,u,rfl,rfl⟩|⟨y,u,rfl,rfl⟩
   ·rw[Qi]at h;exact wpAny_eqBool_int h
   ·rw[Qk]at h;exact SeqAt.EqAt.int_str i t y u _ _ _ _ h
  ·rcases cH hv with⟨j,u,rfl,rfl⟩|⟨y,u,rfl,rfl⟩
   ·rw[Ql]at h;exact SeqAt.EqAt.str_int x t j u _ _ _ _ h
   ·rw[Qj]at h;exact wpAny_eqBool_str h
 «strs»:=fun k x t v h=>by
  rcases cH h with⟨i,u,rfl,e⟩|⟨y,u,rfl,e⟩
  ·exact nomatch e
  ·injection e with e1 _
   subst e1
   cases v<;>rfl
theorem AA(prog:Program)(w:World)(i:Int)(t:Tok):(cW prog w).is (.inl i) (.int i t)=true:=FY i t
theorem AB(prog:Program)(w:World)(x:Str)(t:Tok):(cW prog w).is (.inr x) (.str x t)=true:=FZ x t
end L2
namespace L2
open PySem PySem.Spec PyProof.Rows
inductive V where
 |non|bl (b:Bool)|int (i:Int)|str (x:Str)|Hf (b:Array UInt8)|Qm (b:UInt64)|ref (a:Addr)|ty (n:String)
 deriving DecidableEq
def RelV:V->Value->Prop
 |.non,u=>u=Value.none
 |.bl b,u=>u=Value.bool b
 |.int i,u=>∃t,u=Value.int i t
 |.str x,u=>∃t,u=Value.str x t
 |.Hf b,u=>∃t,u=Value.bytes b t
 |.Qm b,u=>∃t,u=Value.float b t
 |.ref a,u=>u=Value.ref a
 |.ty n,u=>u=Value.type n
abbrev Vals:List V->List Value->Prop:=Paired RelV
theorem Vals.length {xs:List V}{us:List Value}(r:Vals xs us):xs.length=us.length:=Paired.length r
theorem Vals.get:∀{xs:List V}{us:List Value}{i:Nat}{x:V},Vals xs us->xs[i]?=some x->∃u,us[i]?=some u/\RelV x u
 |_,_,_,_,.nil,e=>by simp at e
 |_,_,0,_,.cons r _,e=>by simp at e;subst e;exact⟨_,rfl,r⟩
 |_,_,i+1,x,.cons _ t,e=>by
  obtain⟨u,h1,h2⟩:=Vals.get (i:=i) (x:=x) t (by simpa using e)
  exact⟨u,by simpa using h1,h2⟩
theorem Vals.set {x:V}{u:Value}(r:RelV x u):∀{xs:List V}{us:List Value}(i:Nat),Vals xs us->Vals (xs.set i x) (us.set i u)
 |_,_,_,.nil=>.nil
 |_,_,0,.cons _ t=>.cons r t
 |_,_,i+1,.cons q t=>.cons q (Vals.set r i t)
theorem Vals.append:∀{xs ys:List V}{us ws:List Value},Vals xs us->Vals ys ws->Vals (xs++ys) (us++ws)
 |_,_,_,_,.nil,s=>s
 |_,_,_,_,.cons r t,s=>.cons r (Vals.append t s)
theorem Vals.take:∀{xs:List V}{us:List Value}(n:Nat),Vals xs us->Vals (xs.take n) (us.take n)
 |_,_,0,_=>.nil
 |_,_,_+1,.nil=>.nil
 |_,_,n+1,.cons r t=>.cons r (Vals.take n t)
theorem Vals.drop:∀{xs:List V}{us:List Value}(n:Nat),Vals xs us->Vals (xs.drop n) (us.drop n)
 |_,_,0,r=>r
 |_,_,_+1,.nil=>.nil
 |_,_,n+1,.cons _ t=>Vals.drop n t
def oO:Option V->Option Value->Prop
 |some v,some u=>RelV v u
 |none,none=>True
 |_,_=>False
def KV{κ:Type}:List (κ×V)->List (κ×Value)->Prop:=Paired fun(p:κ×V)(q:κ×Value)=>p.1=q.1/\RelV p.2 q.2
def kV:Key->V
 |.inl i=>.int i
 |.inr x=>.str x
inductive HO where
 |lst (xs:List V)
 |tup (xs:List V)
 |dK (kvs:List (Key×V))|dT (kvs:List (List Key×V))
 |set (S:Int->Bool) (n:Nat)
 |ins (C dx:Addr) (fs:List (Str×V))
 |own (x:Addr)
 |xd (fs:List (Str×V))
 |met (f x:Addr)
 |YH (lo hi:Int)
 |xZ (o:Obj) (u:HO)
 |Qn (ps:Array Value)
 |ext (φ:Heap->Prop)
abbrev Hp:=Addr->Option HO
def upd(H:Hp)(a:Addr)(o:HO):Hp:=fun b=>if b=a then some o else H b
theorem ar{H:Hp}{a:Addr}{o:HO}:upd H a o a=some o:=by unfold upd;rw[if_pos rfl]
theorem ah{H:Hp}{a b:Addr}{o:HO}(h:b≠a):upd H a o b=H b:=by unfold upd;rw[if_neg h]
theorem bO{H:Hp}{a b:Addr}{o u:HO}(h:H a=some o)(h':H b=some u)(d:o≠u):a≠b:=by
 intro e;subst e;rw[h]at h';exact d (Option.some.inj h')
theorem au{H:Hp}{a b:Addr}{o:HO}(h:H a=some o)(h':H b=none):a≠b:=by
 intro e;subst e;rw[h]at h';cases h'
section
variable(P:Program)(w:World)
def cT(H:Hp)(h:Heap)(a:Addr):HO->Prop
 |.lst xs=>xs.length<=sizeLine/\∃(its:List Value)(n:Nat),Vals xs its/\h.get? a=some {cls:=.type "list",data:=.seq its.toArray n}
 |.tup xs=>xs.length<=sizeLine/\∃its:List Value,Vals xs its/\IsTup h a its.toArray
 |.dK kvs=>kvs.length<=sizeLine/\(a==sysModules)=false/\∃vs,KV kvs vs/\h.DictOf (cW P w) a vs
 |.dT kvs=>kvs.length<=sizeLine/\(a==sysModules)=false/\∃xs:List (List Key×Addr×Value),
   Paired (fun(p:List Key×V)(q:List Key×Addr×Value)=>p.1=q.1/\H q.2.1=some (.tup (p.1.map kV))/\RelV p.2 q.2.2) kvs xs/\
   ∃o es ep,h.get? a=some o/\o.ExactDict/\o.data=.dict es ep/\es.toList=xs.map (entryOfKey (tupleKind (cW P w)))/\(xs.map (·.1)).Nodup
 |.set S n=>h.SetOf (intKind P w) a S n
 |.ins C dx fs=>H dx=some (.own a)/\fs.length<=1000/\dx≠a/\h.get? a=some (instObj C dx)/\
   ∃mA,h.Ns1 dx mA/\(∀f,oO (fs.lookup f) (mA f))/\PySem.Within mA (fs.map (·.1))
 |.own _=>∃o,h.get? a=some o
 |.xd fs=>∃mA,h.Ns1 a mA/\∀f,oO (fs.lookup f) (mA f)
 |.YH lo hi=>∃t u v,h.get? a=some {cls:=.type "range",data:=.fields #[.int lo t,.int hi u,.int 1 v]}
 |.xZ o u=>h.get? a=some o/\cT H h a u
 |.Qn ps=>h.get? a=some {cls:=.none,data:=.fields ps}
 |.met f x=>h.get? a=some (methodObj (.ref f) (.ref x))
 |.ext φ=>φ h/\(∃o,h.get? a=some o)/\∀h1 h2:Heap,φ h1->(∀o,h1.get? a=some o->h2.get? a=some o)->φ h2
def qy(H:Hp)(h:Heap):Prop:=∀a o,H a=some o->cT P w H h a o
end
section
variable{P:Program}{w:World}{H H':Hp}{h h':Heap}{a:Addr}{o:HO}
theorem cT.lt (x:cT P w H h a o):a<h.objs.size:=by
 cases o with
 |lst xs=>obtain⟨_,_,_,_,e⟩:=x;exact Heap.lt_size e
 |tup xs=>obtain⟨_,_,_,p⟩:=x;exact p.lt
 |dK kvs=>obtain⟨_,_,_,_,o,_,_,e,_⟩:=x;exact Heap.lt_size e
 |dT kvs=>obtain⟨_,_,_,_,o,_,_,e,_⟩:=x;exact Heap.lt_size e
 |set S n=>obtain⟨o,_,_,_,e,_⟩:=x;exact Heap.lt_size e
 |ins C dx fs=>obtain⟨_,_,_,e,_⟩:=x;exact Heap.lt_size e
 |own y=>obtain⟨_,e⟩:=x;exact Heap.lt_size e
 |xd fs=>obtain⟨_,⟨_,_,_,e,_⟩,_⟩:=x;exact Heap.lt_size e
 |YH lo hi=>obtain⟨_,_,_,e⟩:=x;exact Heap.lt_size e
 |xZ ob u=>obtain⟨e,_⟩:=x;exact Heap.lt_size e
 |Qn ps=>exact Heap.lt_size (show h.get? a=some _ from x)
 |met f y=>exact Heap.lt_size (show h.get? a=some _ from x)
 |ext φ=>obtain⟨_,⟨_,e⟩,_⟩:=x;exact Heap.lt_size e
theorem Paired.Qo {α β:Type}{F G:α->β->Prop}:∀{l₁:List α}{l₂:List β},Paired F l₁ l₂->(∀a b,F a b->G a b)->Paired G l₁ l₂
 |_,_,.nil,_=>.nil
 |_,_,.cons r t,f=>.cons (f _ _ r) (Paired.Qo t f)
theorem cT.Cu (x:cT P w H h a o)(k:∀b u,(b=a\/H b=some (.own a))->h.get? b=some u->h'.get? b=some u)
  (ho:∀b,H b=some (.own a)->H' b=some (.own a))(ht:∀b xs,H b=some (.tup xs)->H' b=some (.tup xs)):cT P w H' h' a o:=by
 induction o with
 |lst xs=>obtain⟨z,its,n,r,e⟩:=x;exact⟨z,its,n,r,k _ _ (.inl rfl) e⟩
 |tup xs=>obtain⟨z,its,r,ob,e,c⟩:=x;exact⟨z,its,r,ob,k _ _ (.inl rfl) e,c⟩
 |dK kvs=>obtain⟨z,y,vs,r,ob,es,ep,e,c⟩:=x;exact⟨z,y,vs,r,ob,es,ep,k _ _ (.inl rfl) e,c⟩
 |dT kvs=>
  obtain⟨z,y,xs,r,ob,es,ep,e,c⟩:=x
  exact⟨z,y,xs,Paired.Qo r fun p q z=>⟨z.1,ht _ _ z.2.1,z.2.2⟩,ob,es,ep,k _ _ (.inl rfl) e,c⟩
 |set S n=>obtain⟨ob,es,ep,t,e,c⟩:=x;exact⟨ob,es,ep,t,k _ _ (.inl rfl) e,c⟩
 |ins C dx fs=>
  obtain⟨d,z,ne,e,mA,⟨od,es,ep,e2,c⟩,r⟩:=x
  exact⟨ho _ d,z,ne,k _ _ (.inl rfl) e,mA,⟨od,es,ep,k _ _ (.inr d) e2,c⟩,r⟩
 |own y=>obtain⟨ob,e⟩:=x;exact⟨ob,k _ _ (.inl rfl) e⟩
 |xd fs=>obtain⟨mA,⟨od,es,ep,e,c⟩,r⟩:=x;exact⟨mA,⟨od,es,ep,k _ _ (.inl rfl) e,c⟩,r⟩
 |YH lo hi=>obtain⟨t,u,v,e⟩:=x;exact⟨t,u,v,k _ _ (.inl rfl) e⟩
 |xZ ob u ih=>obtain⟨e,q⟩:=x;exact⟨k _ _ (.inl rfl) e,ih q⟩
 |Qn ps=>
  have e:h.get? a=some {cls:=.none,data:=.fields ps}:=x
  show h'.get? a=some {cls:=.none,data:=.fields ps}
  exact k a _ (.inl rfl) e
 |met f y=>
  have e:h.get? a=some (methodObj (.ref f) (.ref y)):=x
  show h'.get? a=some (methodObj (.ref f) (.ref y))
  exact k a _ (.inl rfl) e
 |ext φ=>obtain⟨p,⟨o,e⟩,st⟩:=x;exact⟨st _ _ p fun o q=>k _ _ (.inl rfl) q,⟨o,k _ _ (.inl rfl) e⟩,st⟩
theorem qy.lt (x:qy P w H h)(e:H a=some o):a<h.objs.size:=(x a o e).lt
theorem qy.fresh (x:qy P w H h)(e:h.objs.size<=a):H a=none:=by
 cases q:H a with
 |none=>rfl
 |some u=>exact absurd (lt_of_lt_of_le (x.lt q) e) (Nat.lt_irrefl _)
theorem qy.kept (x:qy P w H h)(k:∀b u,h.get? b=some u->h'.get? b=some u):qy P w H h':=fun a o e=>
 (x a o e).Cu (fun b u _ q=>k b u q) (fun _ q=>q) fun _ _ q=>q
theorem qy.laid (x:qy P w H h)(k:∀b u,h.get? b=some u->h'.get? b=some u)(hp:h.objs.size<=a)(new:cT P w (upd H a o) h' a o):qy P w (upd H a o) h':=fun b u e=>by
 have hn:=x.fresh hp
 by_cases hb:b=a
 ·subst hb;rw[ar]at e;cases e;exact new
 ·rw[ah hb]at e
  exact(x b u e).Cu (fun c v _ q=>k c v q) (fun c q=>by rw[ah (au q hn)];exact q) fun c xs q=>by rw[ah (au q hn)];exact q
end
def Rd(H:Hp)(a:Addr)(u:HO):Prop:=H a=some u\/∃o,H a=some (.xZ o u)
theorem Rd.ok {P:Program}{w:World}{H:Hp}{h:Heap}{a:Addr}{u:HO}(r:Rd H a u)(x:qy P w H h):cT P w H h a u:=by
 rcases r with r|⟨o,r⟩
 ·exact x a u r
 ·obtain⟨_,q⟩:=x a _ r
  exact q
def UG:Option HO->Prop
 |some (.lst _)=>True
 |some (.dK _)=>True
 |some (.dT _)=>True
 |some (.set _ _)=>True
 |some (.ins _ _ _)=>True
 |some (.ext _)=>True
 |_=>False
section
variable{P:Program}{w:World}{H:Hp}{h h':Heap}{x e:Addr}{o':HO}
theorem qy.write (ok:qy P w H h)(mu:UG (H x))(he:e=x\/H e=some (.own x))(k:∀b u,b≠e->h.get? b=some u->h'.get? b=some u)(T7:∃u,h'.get? e=some u)
  (new:cT P w (upd H x o') h' x o'):qy P w (upd H x o') h':=fun b u q=>by
 have UH:∀c y,H c=some (.own y)->c≠x:=fun c y r z=>by subst z;rw[r]at mu;exact mu
 have YJ:∀c xs,H c=some (.tup xs)->c≠x:=fun c xs r z=>by subst z;rw[r]at mu;exact mu
 by_cases hb:b=x
 ·subst hb;rw[ar]at q;cases q;exact new
 ·rw[ah hb]at q
  by_cases Qp:b=e
  ·have q':H b=some (.own x):=by
    rcases he with z|z
    ·exact absurd (Qp.trans z) hb
    ·rw[Qp];exact z
   rw[q]at q';cases q'
   obtain⟨v,hv⟩:=T7
   exact⟨v,by rw[Qp];exact hv⟩
  ·refine(ok b u q).Cu (fun c v hc r=>k c v ?_ r) (fun c r=>by rw[ah (UH c b r)];exact r) fun c xs r=>by rw[ah (YJ c xs r)];exact r
   rcases hc with rfl|hc
   ·exact Qp
   ·rintro rfl
    rcases he with z|z
    ·exact UH c b hc z
    ·rw[hc]at z;cases z;exact hb rfl
end
structure Un(fs ex:List Addr)(H H':Hp)(h h':Heap):Prop where
 keep:∀b o,h.get? b=some o->H b=none->b∉fs->b∉ex->h'.get? b=some o
 slot:∀b o,h.get? b=some o->H b=none->b∈fs->b∉ex->∃sl,h'.get? b=some {o with slots:=sl}
 free:∀b o,h.get? b=some o->H b=none->b∉ex->H' b=none
 there:∀b o,h.get? b=some o->b∉ex->∃o',h'.get? b=some o'
 tups:∀b xs,H b=some (.tup xs)->H' b=some (.tup xs)
 ze:∀b o u,H b=some (.xZ o u)->H' b=some (.xZ o u)
 AD:∀b ps,H b=some (.Qn ps)->∃more,H' b=some (.Qn (ps++more))
section
variable{fs fs' ex XH:List Addr}{H H1 H2:Hp}{h h1 h2 h':Heap}{a x e:Addr}{o:HO}
theorem Un.any (u:Un fs ex H H1 h h1){b:Addr}{ob:Obj}(q:h.get? b=some ob)(n:H b=none)(hx:b∉ex):∃sl,h1.get? b=some {ob with slots:=sl}:=by
 by_cases hb:b∈fs
 ·exact u.slot b ob q n hb hx
 ·exact⟨ob.slots,u.keep b ob q n hb hx⟩
theorem Un.kept (k:∀b u,h.get? b=some u->h'.get? b=some u):Un fs ex H H h h':=
 ⟨fun b ob q _ _ _=>k b ob q,fun b ob q _ _ _=>⟨ob.slots,k b ob q⟩,fun _ _ _ n _=>n,fun b ob q _=>⟨ob,k b ob q⟩,fun _ _ q=>q,fun _ _ _ q=>q,fun _ ps q=>⟨#[],by rw[q];simp⟩⟩
theorem Un.refl:Un fs ex H H h h:=Un.kept fun _ _ q=>q
theorem Un.laid (k:∀b u,h.get? b=some u->h'.get? b=some u)(hp:h.objs.size<=a)(hn:H a=none):Un fs ex H (upd H a o) h h' where
 keep:=fun b u q _ _ _=>k b u q
 slot:=fun b u q _ _ _=>⟨u.slots,k b u q⟩
 free:=fun b u q n _=>by rw[ah (ne_of_lt (lt_of_lt_of_le (Heap.lt_size q) hp))];exact n
 there:=fun b u q _=>⟨u,k b u q⟩
 tups:=fun b xs q=>by rw[ah (au q hn)];exact q
 ze:=fun b u xs q=>by rw[ah (au q hn)];exact q
 AD:=fun b ps q=>⟨#[],by rw[ah (au q hn),q];simp⟩
theorem Un.write (mu:UG (H x))(he:e=x\/H e=some (.own x))(k:∀b u,b≠e->h.get? b=some u->h'.get? b=some u)(T7:∃u,h'.get? e=some u):Un fs ex H (upd H x o) h h':=by
 have hx:∀b,H b=none->b≠x:=fun b n z=>by subst z;rw[n]at mu;exact mu
 have hb:∀b,H b=none->b≠e:=fun b n z=>by
  subst z
  rcases he with r|r
  ·exact hx b n r
  ·rw[n]at r;cases r
 have hm:∀b u,H b=some u->¬UG (some u)->b≠x:=fun b u q nm z=>by subst z;rw[q]at mu;exact nm mu
 refine⟨fun b u q n _ _=>k b u (hb b n) q,fun b u q n _ _=>⟨u.slots,k b u (hb b n) q⟩,fun b u q n _=>by rw[ah (hx b n)];exact n,fun b u q _=>?_,
  fun b xs q=>by rw[ah (hm b _ q fun z=>z)];exact q,fun b u xs q=>by rw[ah (hm b _ q fun z=>z)];exact q,fun b ps q=>⟨#[],by rw[ah (hm b _ q fun z=>z),q];simp⟩⟩
 by_cases Qp:b=e
 ·subst Qp;exact T7
 ·exact⟨u,k b u Qp q⟩
end
def XI(h:Heap)(H:Hp):List Addr:=(range h.objs.size).filter fun a=>(H a).isSome
def zf(h:Heap)(H:Hp):Heap:=PySem.W.hideAll h (XI h H)
theorem F0(h:Heap)(H:Hp):(zf h H).objs.size=h.objs.size:=PySem.W.hideAll_size _ _
theorem HA{h:Heap}{H:Hp}{b:Addr}{o:Obj}(e:h.get? b=some o)(n:H b=none):(zf h H).get? b=some o:=
 PySem.W.hideAll_get _ e fun hm=>by
  have q:(H b).isSome=true:=(mem_filter.mp hm).2
  rw[n]at q;simp at q
theorem LG{h:Heap}{H:Hp}{b:Addr}{o:Obj}(e:(zf h H).get? b=some o):h.get? b=some o/\H b=none:=by
 have e':h.get? b=some o:=PySem.W.of_hideAll (XI h H) e
 refine⟨e',?_⟩
 cases q:H b with
 |none=>rfl
 |some x=>
  have hm:b∈XI h H:=mem_filter.mpr ⟨mem_range.mpr (Heap.lt_size e'),by simp[q]⟩
  have z:(zf h H).get? b=none:=PySem.W.hideAll_none (XI h H) hm
  rw[z]at e;cases e
def LH(g h:Heap)(L:Addr):List (Addr×Obj):=(range h.objs.size).filterMap fun a=>if a=L\/(g.get? a).isSome=true then none else(h.get? a).map fun o=>(a,o)
def rest(g h:Heap)(L d:Addr):List (Addr×Obj):=(LH g h L).filter fun p=>decide (p.1≠d)
end L2
namespace L2
open PySem PySem.Spec PyProof.Rows
structure Mod(K:PySem.W.Frag)(mg:Str->Option Value)(base:Heap):Prop where
 UI:K.In base
 glob:base.Ns mainGlobals mg
 blt:∃mb,base.Ns builtinsNs mb/\∀x:Str,x≠"__name__"->mb x=bootBuiltins x
 nolimit:base.NoLimit
structure Cx where
 prog:Program
 w:World
 K:PySem.W.Frag
 mg:Str->Option Value
 base:Heap
 A:Around
 N:List Str
 s₀:Shared
 H₀:Hp
 env:Env
 outer:List Env
 stack:List Env
 ex:List Addr
 fn:Str->Bool
 calm:Bool
 pn:List (Addr×Obj)
 xe:Value->Shared->Prop
def Cp(l:List Env):List Addr:=l.filterMap (·.frame)
abbrev Cx.fs (X:Cx):List Addr:=Cp X.outer
def wz(sc:Scope)(x:Str):Prop:=sc.names.lookup x=some .local\/sc.names.lookup x=some .cell\/sc.names.lookup x=some .free
def Loc(sc:Scope)(x:Str):Prop:=sc.names.lookup x=some .local\/sc.names.lookup x=some .cell
def Look(env:Env)(h:Heap)(m:Str->Option Value)(x:Str)(u:Value):Prop:=
 (env.kindOf x=some .local/\m x=some u)\/((env.kindOf x=some .cell\/env.kindOf x=some .free)/\∃c,env.cells.lookup x=some c/\h.IsCell c (some u))
structure Cx.Ok (X:Cx):Prop where
 mod:Mod X.K X.mg X.base
 kind:X.env.scope.kind=.function
 glob:X.env.globals=mainGlobals
 blt:X.env.builtins=builtinsNs
 above:X.s₀.heap.objs.size<=X.env.locals
 inj:∀x y c,X.env.cells.lookup x=some c->X.env.cells.lookup y=some c->x=y
 has:∀x,(X.env.kindOf x=some .cell\/X.env.kindOf x=some .free)->∃c,X.env.cells.lookup x=some c
 T8:∀x c,X.fn x=true->X.env.cells.lookup x=some c->X.s₀.heap.objs.size<=c
 hd:X.calm=true->X.A.handled=none
 frames:X.A.frames=some X.stack
 UJ:X.stack=X.outer\/(X.stack=X.env::X.outer/\X.env.frame=some X.env.locals)
 UK:∀b∈X.ex,b≠X.env.locals/\∀x c,X.env.cells.lookup x=some c->c≠b
 bs:∀b o,X.base.get? b=some o->X.s₀.heap.get? b=some o/\X.H₀ b=none
 Lj:X.base.objs.size<=X.s₀.heap.objs.size
 F3:∀b o,X.base.get? b=some o->b∉X.ex
 Cw:∀b∈X.ex,b∉X.fs
 tJ:X.s₀.heap.FunFrames X.base X.outer
 NZ:∀b∈X.fs,X.H₀ b=none
structure Inv(X:Cx)(pins:List (Addr×Obj))(σ:List (Option V))(H:Hp)(s:Shared):Prop where
 ok:X.Ok
 os:s.os=X.s₀.os
 bare:AllBare s.gens
 base:Un X.fs X.ex X.H₀ H X.s₀.heap s.heap
 loc:∃m,s.heap.Ns X.env.locals m/\∀(i:Nat)(x:Str)(v:V),X.N[i]?=some x->σ[i]?=some (some v)->wz X.env.scope x->∃u,RelV v u/\Look X.env s.heap m x u
 cell:∀x c,X.env.cells.lookup x=some c->∃v,s.heap.IsCell c v
 free:H X.env.locals=none
 qC:∀x c,X.env.cells.lookup x=some c->H c=none
 pin:∀p∈X.pn++pins,s.heap.get? p.1=some p.2/\H p.1=none/\p.1≠X.env.locals/\p.1∉X.fs/\∀v,p.2.data≠.cell v
 hok:qy X.prog X.w H s.heap
 len:σ.length=X.N.length
section
variable{X:Cx}{pins:List (Addr×Obj)}{σ:List (Option V)}{H H':Hp}{s:Shared}{h':Heap}
theorem Cx.Ok.YK (ok:X.Ok){b:Addr}{o:Obj}(e:X.base.get? b=some o):b∉X.fs:=fun hb=>by
 have:=(ok.tJ.mem hb).1
 rw[e]at this;cases this
theorem Inv.bs (I:Inv X pins σ H s):∀b o,X.base.get? b=some o->s.heap.get? b=some o/\H b=none:=fun b o e=>
 ⟨I.base.keep b o (I.ok.bs b o e).1 (I.ok.bs b o e).2 (I.ok.YK e) (I.ok.F3 b o e),I.base.free b o (I.ok.bs b o e).1 (I.ok.bs b o e).2 (I.ok.F3 b o e)⟩
theorem Inv.bk (I:Inv X pins σ H s):∀b o,X.base.get? b=some o->s.heap.get? b=some o:=fun b o e=>(I.bs b o e).1
theorem Inv.mod (I:Inv X pins σ H s):Mod X.K X.mg X.base:=I.ok.mod
theorem Inv.tK (I:Inv X pins σ H s):X.K.In s.heap:=I.ok.mod.UI.keeps I.bk
theorem Inv.lt (I:Inv X pins σ H s):X.env.locals<s.heap.objs.size:=let⟨_,hn,_⟩:=I.loc;hn.lt
theorem Inv.sz (I:Inv X pins σ H s):X.s₀.heap.objs.size<=s.heap.objs.size:=le_trans I.ok.above (Nat.le_of_lt I.lt)
theorem Inv.YL (I:Inv X pins σ H s){a:Addr}(h:s.heap.objs.size<=a):a∉X.fs:=fun hb=>by
 obtain⟨_,o,ho,_⟩:=I.ok.tJ.mem hb
 exact absurd (lt_of_lt_of_le (Heap.lt_size ho) (le_trans I.sz h)) (Nat.lt_irrefl _)
theorem Inv.Qq (I:Inv X pins σ H s):∀x c,X.env.cells.lookup x=some c->c≠X.env.locals:=fun x c e z=>by
 obtain⟨v,o,ho,hd⟩:=I.cell x c e
 obtain⟨m,⟨o',es,ep,Qs,LJ,_⟩,_⟩:=I.loc
 rw[z,Qs]at ho;cases ho;rw[LJ]at hd;cases hd
theorem Inv.tJ (I:Inv X pins σ H s):s.heap.FunFrames X.base X.outer:=by
 have all:∀(l:List Env),(∀b∈Cp l,b∈X.fs)->X.s₀.heap.FunFrames X.base l->s.heap.FunFrames X.base l:=by
  intro l
  induction l with
  |nil=>intro _ _;trivial
  |cons env r ih=>
   intro hs hl
   obtain⟨hk,⟨L,o,hf,hn,ho,hd⟩,hr⟩:=hl
   have hL:L∈X.fs:=hs L (by unfold Cp;rw[List.filterMap_cons,hf];exact mem_cons_self)
   obtain⟨sl,e⟩:=I.base.slot L o ho (I.ok.NZ L hL) hL fun z=>I.ok.Cw L z hL
   exact⟨hk,⟨L,_,hf,hn,e,hd⟩,ih (fun b hb=>hs b (by unfold Cp;rw[List.filterMap_cons,hf];exact mem_cons_of_mem _ hb)) hr⟩
 exact all X.outer (fun _ hb=>hb) I.ok.tJ
theorem Inv.stack (I:Inv X pins σ H s):s.heap.FunFrames X.base X.stack:=by
 rcases I.ok.UJ with e|⟨e,hf⟩
 ·rw[e];exact I.tJ
 ·rw[e]
  obtain⟨m,hn,_⟩:=I.loc
  refine .cons (by rw[I.ok.kind];decide) hf hn ?_ I.tJ
  exact Heap.get?_none_of_le (le_trans I.ok.Lj I.ok.above)
theorem Inv.zg (I:Inv X pins σ H s):∀b∈Cp X.stack,b∈X.env.locals::X.fs:=fun b hb=>by
 rcases I.ok.UJ with e|⟨e,hf⟩
 ·rw[e]at hb;exact mem_cons_of_mem _ hb
 ·rw[e]at hb
  unfold Cp at hb
  rw[List.filterMap_cons,hf]at hb
  exact hb
theorem Inv.DV (I:Inv X pins σ H s):∀b∈Cp X.stack,H b=none:=fun b hb=>by
 rcases mem_cons.mp (I.zg b hb)with e|hb
 ·rw[e];exact I.free
 ·obtain⟨_,o,ho,_⟩:=I.ok.tJ.mem hb
  exact I.base.free b o ho (I.ok.NZ b hb) fun z=>I.ok.Cw b z hb
theorem Inv.step {g':Array GenState}{t':Nat}{d':Drawn}{ch:List Addr}(I:Inv X pins σ H s)
  (hch:∀b∈ch,(b∈X.ex\/X.s₀.heap.objs.size<=b)/\b≠X.env.locals/\(∀x c,X.env.cells.lookup x=some c->c≠b)/\∀p∈X.pn++pins,p.1≠b)
  (keep:∀b o,b≠X.env.locals->b∉X.fs->b∉ch->s.heap.get? b=some o->H b=none->h'.get? b=some o)
  (slot:∀b o,b≠X.env.locals->b∈X.fs->b∉ch->s.heap.get? b=some o->H b=none->∃sl,h'.get? b=some {o with slots:=sl})(free:∀b o,b∉ch->s.heap.get? b=some o->H b=none->H' b=none)
  (there:∀b o,b∉ch->s.heap.get? b=some o->∃o',h'.get? b=some o')
  (tups:∀b xs,H b=some (.tup xs)->H' b=some (.tup xs))(ze:∀b o u,H b=some (.xZ o u)->H' b=some (.xZ o u))(AD:∀b ps,H b=some (.Qn ps)->∃more,H' b=some (.Qn (ps++more)))
  (ns:∀m,s.heap.Ns X.env.locals m->h'.Ns X.env.locals m)(hok:qy X.prog X.w H' h')(hg:AllBare g'):
  Inv X pins σ H' {s with heap:=h',gens:=g',drawn:=d',toks:=t'}:=by
 have neL:∀b o,X.s₀.heap.get? b=some o->b≠X.env.locals:=fun b o e=>ne_of_lt (lt_of_lt_of_le (Heap.lt_size e) I.ok.above)
 have XJ:∀b o,X.s₀.heap.get? b=some o->b∉X.ex->b∉ch:=fun b o e hx hb=>by
  rcases(hch b hb).1 with z|z
  ·exact hx z
  ·exact absurd (lt_of_lt_of_le (Heap.lt_size e) z) (Nat.lt_irrefl _)
 have cellK:∀x c,X.env.cells.lookup x=some c->∀v,s.heap.IsCell c v->h'.IsCell c v:=fun x c e v ⟨o,ho,hd⟩=>by
  have UL:c∉ch:=fun z=>(hch c z).2.2.1 x c e rfl
  by_cases hc:c∈X.fs
  ·obtain⟨sl,q⟩:=slot c o (I.Qq x c e) hc UL ho (I.qC x c e)
   exact⟨_,q,hd⟩
  ·exact⟨o,keep c o (I.Qq x c e) hc UL ho (I.qC x c e),hd⟩
 refine⟨I.ok,I.os,hg,⟨fun b o e n hb hx=>?_,fun b o e n hb hx=>?_,fun b o e n hx=>?_,fun b o e hx=>?_,fun b xs e=>tups b xs (I.base.tups b xs e),fun b o xs e=>ze b o xs (I.base.ze b o xs e),fun b ps e=>?_⟩,?_,fun x c e=>?_,?_,fun x c e=>?_,fun p hp=>?_,hok,I.len⟩
 ·exact keep b o (neL b o e) hb (XJ b o e hx) (I.base.keep b o e n hb hx) (I.base.free b o e n hx)
 ·obtain⟨sl,e1⟩:=I.base.slot b o e n hb hx
  obtain⟨sl',e2⟩:=slot b _ (neL b o e) hb (XJ b o e hx) e1 (I.base.free b o e n hx)
  exact⟨sl',e2⟩
 ·obtain⟨o',e1⟩:=I.base.there b o e hx
  exact free b o' (XJ b o e hx) e1 (I.base.free b o e n hx)
 ·obtain⟨o',e1⟩:=I.base.there b o e hx
  exact there b o' (XJ b o e hx) e1
 ·obtain⟨m1,e1⟩:=I.base.AD b ps e
  obtain⟨m2,e2⟩:=AD b _ e1
  exact⟨m1++m2,by rw[e2,Array.append_assoc]⟩
 ·obtain⟨m,hn,hl⟩:=I.loc
  refine⟨m,ns m hn,fun i x v e1 e2 e3=>?_⟩
  obtain⟨u,r,l⟩:=hl i x v e1 e2 e3
  refine⟨u,r,?_⟩
  rcases l with l|⟨k,c,e,z⟩
  ·exact .inl l
  ·exact .inr ⟨k,c,e,cellK x c e _ z⟩
 ·obtain⟨v,z⟩:=I.cell x c e
  exact⟨v,cellK x c e v z⟩
 ·obtain⟨m,⟨o,_,_,ho,_⟩,_⟩:=I.loc
  exact free _ o (fun z=>(hch _ z).2.1 rfl) ho I.free
 ·obtain⟨v,o,ho,hd⟩:=I.cell x c e
  exact free c o (fun z=>(hch c z).2.2.1 x c e rfl) ho (I.qC x c e)
 ·obtain⟨e,n,ne,nf,d⟩:=I.pin p hp
  have UL:p.1∉ch:=fun z=>(hch p.1 z).2.2.2 p hp rfl
  exact⟨keep p.1 p.2 ne nf UL e n,free p.1 p.2 UL e n,ne,nf,d⟩
theorem Inv.un {t':Nat}(I:Inv X pins σ H s)(u:Un X.fs [] H H' s.heap h')(hok:qy X.prog X.w H' h'):Inv X pins σ H' {s with heap:=h',toks:=t'}:=by
 obtain⟨m,⟨o,es,ep,ho,r⟩,_⟩:=id I.loc
 obtain⟨sl,hL⟩:=u.any ho I.free (by simp)
 exact I.step (g':=s.gens) (d':=s.drawn) (ch:=[]) (fun _ z=>nomatch z) (fun b o _ hb _ e n=>u.keep b o e n hb (by simp)) (fun b o _ hb _ e n=>u.slot b o e n hb (by simp)) (fun b o _ e n=>u.free b o e n (by simp)) (fun b o _ e=>u.there b o e (by simp)) u.tups u.ze u.AD (fun m' hm=>by
  obtain⟨o',YM,YN,Qs,r'⟩:=hm
  rw[ho]at Qs;cases Qs
  exact⟨_,YM,YN,hL,r'⟩) hok I.bare
theorem Inv.call {g':Array GenState}{t':Nat}{d':Drawn}{ch:List Addr}(I:Inv X pins σ H s)(u:Un (Cp X.stack) ch H H' s.heap h')(hok:qy X.prog X.w H' h')(hg:AllBare g')
  (hch:∀b∈ch,(b∈X.ex\/X.s₀.heap.objs.size<=b)/\b≠X.env.locals/\(∀x c,X.env.cells.lookup x=some c->c≠b)/\∀p∈X.pn++pins,p.1≠b):
  Inv X pins σ H' {s with heap:=h',gens:=g',drawn:=d',toks:=t'}:=by
 obtain⟨m,⟨o,es,ep,ho,r⟩,_⟩:=id I.loc
 obtain⟨sl,hL⟩:=u.any ho I.free fun z=>(hch _ z).2.1 rfl
 exact I.step (ch:=ch) hch (fun b o hL hb hc e n=>u.keep b o e n (fun z=>(mem_cons.mp (I.zg b z)).elim hL hb) hc) (fun b o _ _ hc e n=>u.any e n hc) (fun b o hc e n=>u.free b o e n hc) (fun b o hc e=>u.there b o e hc) u.tups u.ze u.AD (fun m' hm=>by
  obtain⟨o',YM,YN,Qs,r'⟩:=hm
  rw[ho]at Qs;cases Qs
  exact⟨_,YM,YN,hL,r'⟩) hok hg
theorem Inv.turned {t':Nat}{it:Addr}(I:Inv X pins σ H s)(k:∀b o,b≠it->s.heap.get? b=some o->h'.get? b=some o)(hn:H it=none)(hL:it≠X.env.locals)
  (h1:it∈X.ex\/X.s₀.heap.objs.size<=it)(h2:∀x c,X.env.cells.lookup x=some c->c≠it)(h3:∀p∈X.pn++pins,p.1≠it):Inv X pins σ H {s with heap:=h',toks:=t'}:=by
 have nit:∀b u,H b=some u->b≠it:=fun b u e z=>by rw[z,hn]at e;cases e
 refine I.step (g':=s.gens) (d':=s.drawn) (ch:=[it]) (fun b hb=>?_) (fun b o _ _ hc e _=>k b o (fun z=>hc (by simp[z])) e) (fun b o _ _ hc e _=>⟨o.slots,k b o (fun z=>hc (by simp[z])) e⟩) (fun _ _ _ _ n=>n)
  (fun b o hc e=>⟨o,k b o (fun z=>hc (by simp[z])) e⟩) (fun _ _ e=>e) (fun _ _ _ e=>e) (fun b ps e=>⟨#[],by rw[e];simp⟩) (fun m hm=>?_) (fun b u e=>?_) I.bare
 ·have e:b=it:=by simpa using hb
  subst e
  exact⟨h1,hL,h2,h3⟩
 ·obtain⟨o,es,ep,ho,r⟩:=hm
  exact⟨o,es,ep,k _ o (Ne.symm hL) ho,r⟩
 ·refine(I.hok b u e).Cu (fun c v hc q=>k c v ?_ q) (fun _ q=>q) fun _ _ q=>q
  rcases hc with z|z
  ·rw[z];exact nit b u e
  ·exact nit c _ z
theorem Inv.tok (I:Inv X pins σ H s)(t:Nat):Inv X pins σ H {s with toks:=t}:=I.un (h':=s.heap) (t':=t) Un.refl I.hok
theorem Inv.kept {t':Nat}(I:Inv X pins σ H s)(k:∀b u,s.heap.get? b=some u->h'.get? b=some u):Inv X pins σ H {s with heap:=h',toks:=t'}:=I.un (Un.kept k) (I.hok.kept k)
theorem Inv.laid {a:Addr}{o:HO}{t':Nat}(I:Inv X pins σ H s)(k:∀b u,s.heap.get? b=some u->h'.get? b=some u)(hp:s.heap.objs.size<=a)(new:cT X.prog X.w (upd H a o) h' a o):
  Inv X pins σ (upd H a o) {s with heap:=h',toks:=t'}:=I.un (Un.laid k hp (I.hok.fresh hp)) (I.hok.laid k hp new)
theorem Inv.write {x e:Addr}{o:HO}{t':Nat}(I:Inv X pins σ H s)(mu:UG (H x))(he:e=x\/H e=some (.own x))(k:∀b u,b≠e->s.heap.get? b=some u->h'.get? b=some u)(T7:∃u,h'.get? e=some u)
  (new:cT X.prog X.w (upd H x o) h' x o):Inv X pins σ (upd H x o) {s with heap:=h',toks:=t'}:=I.un (Un.write mu he k T7) (I.hok.write mu he k T7 new)
theorem Inv.DW {N3:List (Addr×Obj)}(I:Inv X pins σ H s)(h:∀p∈N3,s.heap.get? p.1=some p.2/\H p.1=none/\p.1≠X.env.locals/\p.1∉X.fs/\∀v,p.2.data≠.cell v):Inv X N3 σ H s:=
 ⟨I.ok,I.os,I.bare,I.base,I.loc,I.cell,I.free,I.qC,fun p hp=>(mem_append.mp hp).elim (fun z=>I.pin p (mem_append_left _ z)) (h p),I.hok,I.len⟩
theorem AE{N:List Str}(hN:N.Nodup){i j:Nat}{x:Str}(a:N[i]?=some x)(b:N[j]?=some x):i=j:=by
 obtain⟨h1,e1⟩:=List.getElem?_eq_some_iff.mp a
 obtain⟨h2,e2⟩:=List.getElem?_eq_some_iff.mp b
 exact(List.getElem_inj hN).mp (e1.trans e2.symm)
theorem F4{M:Model}{A:Around}{E:Value->Shared->Prop}{i:Nat}{x:Str}{v:V}{u:Value}{Q:Unit->Shared->Prop}(I:Inv X pins σ H s)(hN:X.N.Nodup)(hi:X.N[i]?=some x)(hx:Loc X.env.scope x)(r:RelV v u)
  (h:∀s',Inv X pins (σ.set i (some v)) H s'->(∃a,Heap.SameBut a s.heap s'.heap/\(a=X.env.locals\/X.env.cells.lookup x=some a))->Q () s')(hf:X.fn x=true\/X.env.scope.names.lookup x=some .local:=by first|exact .inl rfl|exact .inr rfl|assumption):wpAny M A (storeName X.env x u) Q E s:=by
 obtain⟨m,hn,hl⟩:=id I.loc
 have hcls:(X.env.scope.kind==.class||(X.env.scope.kind==.module&&X.env.locals !=X.env.globals))=false:=by rw[I.ok.kind];rfl
 have hiσ:i<σ.length:=by rw[I.len];exact(List.getElem?_eq_some_iff.mp hi).1
 have Qq:=I.Qq
 have tracked:∀{a:Addr}{h':Heap},(∃o,s.heap.get? a=some o/\H a=none)->Heap.SameBut a s.heap h'->qy X.prog X.w H h':=fun{a h'} ha hs b ob e=>by
  obtain⟨_,_,hfree⟩:=ha
  refine(I.hok b ob e).Cu (fun c w' hc q=>(hs.2 c ?_).trans q) (fun _ q=>q) fun _ _ q=>q
  rintro rfl
  rcases hc with rfl|hc
  ·rw[hfree]at e;cases e
  ·rw[hfree]at hc;cases hc
 rcases hx with hk|hk
 ·refine wpAny_storeName_local hk hn (fun h' hn' hs=>?_) hcls
  obtain⟨oL,_,_,hoL,_⟩:=id hn
  refine h _ ⟨I.ok,I.os,I.bare,⟨fun b o e n hb hx=>?_,fun b o e n hb hx=>?_,I.base.free,fun b o e hx=>?_,I.base.tups,I.base.ze,I.base.AD⟩,⟨_,hn',fun j y v' e1 e2 e3=>?_⟩,fun y c e=>?_,I.free,I.qC,fun p hp=>?_,tracked ⟨oL,hoL,I.free⟩ hs,by simpa using I.len⟩ ⟨_,hs,.inl rfl⟩
  ·exact(hs.2 b (ne_of_lt (lt_of_lt_of_le (Heap.lt_size e) I.ok.above))).trans (I.base.keep b o e n hb hx)
  ·obtain⟨sl,e1⟩:=I.base.slot b o e n hb hx
   exact⟨sl,(hs.2 b (ne_of_lt (lt_of_lt_of_le (Heap.lt_size e) I.ok.above))).trans e1⟩
  ·obtain⟨o',e1⟩:=I.base.there b o e hx
   exact⟨o',(hs.2 b (ne_of_lt (lt_of_lt_of_le (Heap.lt_size e) I.ok.above))).trans e1⟩
  ·by_cases hj:j=i
   ·subst hj
    rw[hi]at e1;cases e1
    rw[getElem?_set_self hiσ]at e2
    cases e2
    exact⟨u,r,.inl ⟨hk,by simp⟩⟩
   ·rw[getElem?_set_ne (Ne.symm hj)]at e2
    obtain⟨u',r',q⟩:=hl j y v' e1 e2 e3
    refine⟨u',r',?_⟩
    rcases q with⟨k,e⟩|⟨k,c,e,z⟩
    ·refine .inl ⟨k,?_⟩
     have:y≠x:=fun e=>hj (AE hN e1 (e▸hi))
     simp[this,e]
    ·exact .inr ⟨k,c,e,z.sameBut hs (Qq y c e)⟩
  ·obtain⟨w',z⟩:=I.cell y c e
   exact⟨w',z.sameBut hs (Qq y c e)⟩
  ·obtain⟨e,n,ne,nf,d⟩:=I.pin p hp
   exact⟨(hs.2 p.1 ne).trans e,n,ne,nf,d⟩
 ·have hfn:X.fn x=true:=by
   rcases hf with z|z
   ·exact z
   ·rw[z]at hk;cases hk
  obtain⟨c,hc⟩:=I.ok.has x (.inl hk)
  obtain⟨w',z⟩:=I.cell x c hc
  refine wpAny_storeName_cell I.ok.kind hk hc z (fun h' HB hs=>?_)
  obtain⟨oc,hoc,YQ⟩:=id z
  refine h {s with heap:=h'} ⟨I.ok,I.os,I.bare,⟨fun b o e n hb hx=>?_,fun b o e n hb hx=>?_,I.base.free,fun b o e hx=>?_,I.base.tups,I.base.ze,I.base.AD⟩,⟨m,hn.sameBut hs (Ne.symm (Qq x c hc)),fun j y v' e1 e2 e3=>?_⟩,fun y c' e=>?_,I.free,I.qC,fun p hp=>?_,tracked ⟨oc,hoc,I.qC x c hc⟩ hs,by simpa using I.len⟩ ⟨c,hs,.inr hc⟩
  ·exact(hs.2 b (ne_of_lt (lt_of_lt_of_le (Heap.lt_size e) (I.ok.T8 x c hfn hc)))).trans (I.base.keep b o e n hb hx)
  ·obtain⟨sl,e1⟩:=I.base.slot b o e n hb hx
   exact⟨sl,(hs.2 b (ne_of_lt (lt_of_lt_of_le (Heap.lt_size e) (I.ok.T8 x c hfn hc)))).trans e1⟩
  ·obtain⟨o',e1⟩:=I.base.there b o e hx
   exact⟨o',(hs.2 b (ne_of_lt (lt_of_lt_of_le (Heap.lt_size e) (I.ok.T8 x c hfn hc)))).trans e1⟩
  ·by_cases hj:j=i
   ·subst hj
    rw[hi]at e1;cases e1
    rw[getElem?_set_self hiσ]at e2
    cases e2
    exact⟨u,r,.inr ⟨.inl hk,c,hc,HB⟩⟩
   ·rw[getElem?_set_ne (Ne.symm hj)]at e2
    obtain⟨u',r',q⟩:=hl j y v' e1 e2 e3
    refine⟨u',r',?_⟩
    rcases q with q|⟨k,c',e,z'⟩
    ·exact .inl q
    ·refine .inr ⟨k,c',e,z'.sameBut hs ?_⟩
     rintro rfl
     exact hj (AE hN e1 (I.ok.inj _ _ _ e hc▸hi))
  ·by_cases hcc:c'=c
   ·subst hcc;exact⟨_,HB⟩
   ·obtain⟨w2,z2⟩:=I.cell y c' e
    exact⟨w2,z2.sameBut hs hcc⟩
  ·obtain⟨e,n,ne,nf,d⟩:=I.pin p hp
   refine⟨(hs.2 p.1 ?_).trans e,n,ne,nf,d⟩
   intro q
   rw[q,hoc]at e
   have q':oc=p.2:=Option.some.inj e
   exact d w' (by rw[<-q'];exact YQ)
theorem wA{M:Model}{A:Around}{E:Value->Shared->Prop}{i:Nat}{x:Str}{v:V}{u:Value}{Q:Unit->Shared->Prop}(I:Inv X pins σ H s)(hN:X.N.Nodup)(hi:X.N[i]?=some x)(hx:Loc X.env.scope x)(r:RelV v u)
  (h:∀s',Inv X pins (σ.set i (some v)) H s'->Q () s')(hf:X.fn x=true\/X.env.scope.names.lookup x=some .local:=by first|exact .inl rfl|exact .inr rfl|assumption):wpAny M A (storeName X.env x u) Q E s:=
 F4 I hN hi hx r (fun s' I' _=>h s' I') hf
theorem Inv.N4 {s':Shared}{ch:List Addr}(I:Inv X pins σ H s)(ho:s'.os=s.os)(u:Un (Cp X.stack) ch H H' s.heap s'.heap)(hok:qy X.prog X.w H' s'.heap)(hg:AllBare s'.gens)
  (hch:∀b∈ch,(b∈X.ex\/X.s₀.heap.objs.size<=b)/\b≠X.env.locals/\(∀x c,X.env.cells.lookup x=some c->c≠b)/\∀p∈X.pn++pins,p.1≠b):Inv X pins σ H' s':=by
 obtain⟨h',g',d',t',o'⟩:=s'
 have e:o'=s.os:=ho
 subst e
 exact I.call (g':=g') (t':=t') (d':=d') u hok hg hch
end
abbrev XK:=Value->Option Addr->Hp->Prop
abbrev St:=List (Option V)
abbrev VK:=V->Hp->Prop
abbrev TE:=St->Hp->VK->Prop
abbrev TT:=St->Hp->(Bool->Hp->Prop)->Prop
abbrev TA:=St->Hp->(List V->Hp->Prop)->Prop
structure Ends where
 nx:St->Hp->Prop
 rt:VK
 bk:St->Hp->Prop:=fun _ _=>False
 ct:St->Hp->Prop:=fun _ _=>False
abbrev TS:=Ends->St->Hp->Prop
def EP(X:Cx)(pins:List (Addr×Obj))(σ:St)(Q:VK)(u:Value)(s':Shared):Prop:=∃v H',Inv X pins σ H' s'/\RelV v u/\Q v H'
def TP(X:Cx)(pins:List (Addr×Obj))(σ:St)(Q:Bool->Hp->Prop)(b:Bool)(s':Shared):Prop:=∃H',Inv X pins σ H' s'/\Q b H'
def AP(X:Cx)(pins:List (Addr×Obj))(σ:St)(Q:List V->Hp->Prop)(us:List Value)(s':Shared):Prop:=∃vs H',Inv X pins σ H' s'/\Vals vs us/\Q vs H'
def SP(X:Cx)(pins:List (Addr×Obj))(D:Ends)(f:Flow)(s':Shared):Prop:=
 match f with
 |.next=>∃σ' H',Inv X pins σ' H' s'/\D.nx σ' H'
 |.brk=>∃σ' H',Inv X pins σ' H' s'/\D.bk σ' H'
 |.cont=>∃σ' H',Inv X pins σ' H' s'/\D.ct σ' H'
 |.ret u=>∃v σ' H',Inv X pins σ' H' s'/\RelV v u/\D.rt v H'
def PE(X:Cx)(e:Expr)(t:TE):Prop:=
 ∀(pins:List (Addr×Obj))(s:Shared)(σ:St)(H:Hp)(Q:VK),Inv X pins σ H s->t σ H Q->wpAny (model X.prog X.w) X.A (eval e X.env) (EP X pins σ Q) X.xe s
def PT(X:Cx)(e:Expr)(t:TT):Prop:=
 ∀(pins:List (Addr×Obj))(s:Shared)(σ:St)(H:Hp)(Q:Bool->Hp->Prop),Inv X pins σ H s->t σ H Q->wpAny (model X.prog X.w) X.A (isTrue e X.env (eval e X.env)) (TP X pins σ Q) X.xe s
def PW(X:Cx)(e:Expr)(t:TT):Prop:=
 ∀(whole:Sem Value)(pins:List (Addr×Obj))(s:Shared)(σ:St)(H:Hp)(Q:Bool->Hp->Prop),Inv X pins σ H s->t σ H Q->wpAny (model X.prog X.w) X.A (isTrue e X.env whole) (TP X pins σ Q) X.xe s
theorem PW.pt {X:Cx}{e:Expr}{t:TT}(h:PW X e t):PT X e t:=h _
def PA(X:Cx)(es:List Expr)(t:TA):Prop:=
 ∀(pos:Pos)(pins:List (Addr×Obj))(s:Shared)(σ:St)(H:Hp)(Q:List V->Hp->Prop),Inv X pins σ H s->t σ H Q->wpAny (model X.prog X.w) X.A (spliced (backTo pos (starEach es X.env))) (AP X pins σ Q) X.xe s
def PS(X:Cx)(st:Stmt)(t:TS):Prop:=
 ∀(pins:List (Addr×Obj))(s:Shared)(σ:St)(H:Hp)(D:Ends),Inv X pins σ H s->t D σ H->wpAny (model X.prog X.w) X.A (exec st X.env) (SP X pins D) X.xe s
def qD(X:Cx)(st:List Stmt)(t:TS):Prop:=
 ∀(pins:List (Addr×Obj))(s:Shared)(σ:St)(H:Hp)(D:Ends),Inv X pins σ H s->t D σ H->wpAny (model X.prog X.w) X.A (execs st X.env) (SP X pins D) X.xe s
theorem cj{α:Type}{t:Sem α}{Q Q':α->Shared->Prop}{M:Model}{A:Around}{E:Value->Shared->Prop}{s:Shared}(h:wpAny M A t Q E s)(hQ:∀a s,Q a s->Q' a s):wpAny M A t Q' E s:=wpAny_mono h hQ fun _ _ x=>x
end L2
namespace L2
open PySem PySem.Spec PyProof.Rows
section
variable{X:Cx}
def LK(i:Nat):TE:=fun σ H Q=>∃v,σ[i]?=some (some v)/\Q v H
def tC(v:V):TE:=fun _ H Q=>Q v H
theorem gW{i:Nat}{x:Str}{pos:Pos}(hN:X.N[i]?=some x)(hv:wz X.env.scope x)(hd:(x==("__debug__":Str))=false:=by decide)(hcd:(x==("__classdict__":Str))=false:=by decide):PE X (.Name x pos) (LK i):=by
 intro pins s σ H Q I h
 obtain⟨v,e,h⟩:=h
 obtain⟨m,hn,hl⟩:=I.loc
 obtain⟨u,r,l⟩:=hl i x v hN e hv
 have fin:EP X pins σ Q u s:=⟨v,H,I,r,h⟩
 rcases l with⟨hk,hm⟩|⟨hk,c,hc,hcell⟩
 ·exact wpAny_Name (wpAny_loadName_local I.ok.kind hk hn hm fin) hd
 ·rcases hk with hk|hk
  ·exact wpAny_Name (wpAny_loadName_cell I.ok.kind hk hc hcell fin) hd
  ·exact wpAny_Name (wpAny_loadName_free I.ok.kind hk hc hcell fin hcd) hd
theorem gX{i j pos}:PE X (.Constant (.int i) j pos) (tC (.int i)):=fun _ _ _ H _ I h=>wpAny_Constant_int ⟨.int i,H,I.tok _,⟨_,rfl⟩,h⟩
theorem UM{b j pos}:PE X (.Constant (.bool b) j pos) (tC (.bl b)):=fun _ _ _ H _ I h=>Constant_bool ⟨.bl b,H,I,rfl,h⟩
theorem HC{j pos}:PE X (.Constant .none j pos) (tC .non):=fun _ _ _ H _ I h=>Constant_none ⟨.non,H,I,rfl,h⟩
def Gl(X:Cx)(x:Str):Prop:=X.env.kindOf x=some .globalImplicit
theorem zh{E:Value->Shared->Prop}{pins:List (Addr×Obj)}{s:Shared}{σ:St}{H:Hp}{x:Str}{u:Value}{pos:Pos}{Q:Value->Shared->Prop}(I:Inv X pins σ H s)(hg:Gl X x)(hm:X.mg x=some u)(h:Q u s)
  (hd:(x==("__debug__":Str))=false:=by decide):wpAny (model X.prog X.w) X.A (eval (.Name x pos) X.env) Q E s:=
 Calls.Name_function_global I.ok.kind hg (Calls.loadGlobal_global (by rw[I.ok.glob];exact I.mod.glob.keeps I.bk) hm h) hd
theorem gD{E:Value->Shared->Prop}{pins:List (Addr×Obj)}{s:Shared}{σ:St}{H:Hp}{x:Str}{u:Value}{pos:Pos}{Q:Value->Shared->Prop}(I:Inv X pins σ H s)(hg:Gl X x)(hm:X.mg x=none)(hv:bootBuiltins x=some u)(h:Q u s)
  (hn:x≠"__name__":=by decide)(hd:(x==("__debug__":Str))=false:=by decide):wpAny (model X.prog X.w) X.A (eval (.Name x pos) X.env) Q E s:=by
 obtain⟨mb,h1,h2⟩:=I.mod.blt
 exact Calls.Name_function_global I.ok.kind hg (Calls.loadGlobal_builtin (by rw[I.ok.glob];exact I.mod.glob.keeps I.bk) hm (by rw[I.ok.blt];exact h1.keeps I.bk) ((h2 x hn).trans hv) h) hd
theorem LL{x:Str}{v:V}{u:Value}{pos:Pos}(hg:Gl X x)(hm:X.mg x=some u)(r:RelV v u)(hd:(x==("__debug__":Str))=false:=by decide):PE X (.Name x pos) (tC v):=
 fun _ _ _ H _ I h=>zh I hg hm ⟨v,H,I,r,h⟩ hd
theorem LM{x:Str}{v:V}{u:Value}{pos:Pos}(hg:Gl X x)(hm:X.mg x=none)(hv:bootBuiltins x=some u)(r:RelV v u)(hn:x≠"__name__":=by decide)(hd:(x==("__debug__":Str))=false:=by decide):PE X (.Name x pos) (tC v):=
 fun _ _ _ H _ I h=>gD I hg hm hv ⟨v,H,I,r,h⟩ hn hd
variable{a b:Expr}{ta tb:TE}{pos:Pos}
def PC(X:Cx)(op:CmpOp)(a b:Expr)(t:TE):Prop:=
 ∀(pins:List (Addr×Obj))(s:Shared)(σ:St)(H:Hp)(Q:VK),Inv X pins σ H s->t σ H Q->
  wpAny (model X.prog X.w) X.A (eval a X.env) (fun v s₁=>wpAny (model X.prog X.w) X.A (eval b X.env) (fun u s₂=>wpAny (model X.prog X.w) X.A (compareOp op v u) (EP X pins σ Q) X.xe s₂) X.xe s₁) X.xe s
theorem HD(b:Expr){op:CmpOp}(h:op≠.In)(h2:op≠.NotIn):behindInMarks op b=false:=by
 have e1:(op==CmpOp.In)=false:=by cases op<;>first|rfl|exact absurd rfl h
 have e2:(op==CmpOp.NotIn)=false:=by cases op<;>first|rfl|exact absurd rfl h2
 cases b<;>simp[behindInMarks,e1,e2]
def tB(t:TE):TT:=fun σ H Q=>t σ H fun x H1=>∃c,x=.bl c/\Q c H1
theorem Cy{op:CmpOp}{t:TE}(h:PC X op a b t)(h1:behindInMarks op b=false:=by first|exact HD _ (by decide) (by decide)|rfl):PT X (.Compare a [op] [b] pos) (tB t):=by
 intro pins s σ H Q I hw
 refine wpAny_isTrue_Compare1 (cj (h pins s σ H _ I hw) fun v s1 h1=>cj h1 fun u s2 h2=>cj h2 fun c s3 ⟨x,H1,I1,r1,q1⟩=>?_) h1
 obtain⟨d,rfl,q⟩:=q1
 cases r1
 exact wpAny_truthy_bool ⟨H1,I1,q⟩
theorem Qt{e:Expr}{t:TE}(h:PE X e t)(he:∀whole,isTrue e X.env whole=(do let v<-whole;standAt e.pos;holding [v] (truthy v)):=by intro _;rfl):PT X e (tB t):=by
 intro pins s σ H Q I hw
 refine isTrue_plain (cj (h pins s σ H _ I hw) fun v s1 ⟨x,H1,I1,r1,q1⟩=>?_) (he _)
 obtain⟨d,rfl,q⟩:=q1
 cases r1
 exact wpAny_truthy_bool ⟨H1,I1,q⟩
variable{tA XM:TT}{rest:List Expr}
def YR(t u:TT):TT:=fun σ H Q=>t σ H fun c H1=>if c=true then u σ H1 Q else Q false H1
def tOr(t u:TT):TT:=fun σ H Q=>t σ H fun c H1=>if c=true then Q true H1 else u σ H1 Q
def YS(t:TT):TT:=fun σ H Q=>t σ H fun c H1=>Q (!c) H1
theorem pw_and1(ha:PT X a tA):PW X (.BoolOp .And [a] pos) tA:=by
 intro wh pins s σ H Q I h
 refine isTrue_and (cj (ha pins s σ H Q I h) fun c s1 e=>?_)
 cases c with
 |true=>exact isTrue_and_nil e
 |false=>exact e
theorem pw_or1(ha:PT X a tA):PW X (.BoolOp .Or [a] pos) tA:=by
 intro wh pins s σ H Q I h
 refine isTrue_or (cj (ha pins s σ H Q I h) fun c s1 e=>?_)
 cases c with
 |false=>exact isTrue_or_nil e
 |true=>exact e
theorem pw_and(ha:PT X a tA)(hb:PW X (.BoolOp .And (b::rest) pos) XM):PW X (.BoolOp .And (a::b::rest) pos) (YR tA XM):=by
 intro wh pins s σ H Q I h
 refine isTrue_and (cj (ha pins s σ H _ I h) fun c s1 ⟨H1,I1,q1⟩=>?_)
 cases c with
 |true=>exact hb wh pins s1 σ H1 Q I1 q1
 |false=>exact⟨H1,I1,q1⟩
theorem pw_or(ha:PT X a tA)(hb:PW X (.BoolOp .Or (b::rest) pos) XM):PW X (.BoolOp .Or (a::b::rest) pos) (tOr tA XM):=by
 intro wh pins s σ H Q I h
 refine isTrue_or (cj (ha pins s σ H _ I h) fun c s1 ⟨H1,I1,q1⟩=>?_)
 cases c with
 |true=>exact⟨H1,I1,q1⟩
 |false=>exact hb wh pins s1 σ H1 Q I1 q1
theorem Qu(ha:PT X a tA):PT X (.UnaryOp .Not a pos) (YS tA):=by
 intro pins s σ H Q I h
 exact isTrue_not (ha pins s σ H (fun c H1=>Q (!c) H1) I h)
def UN(ta tb:TE):TE:=fun σ H Q=>ta σ H fun x H1=>∃c,x=.bl c/\if c=true then tb σ H1 Q else Q (.bl false) H1
theorem Qw{op}{t:TE}(h:PE X a t):PE X (.BoolOp op [a] pos) t:=fun pins s σ H Q I hw=>BoolOp_one (h pins s σ H Q I hw)
theorem Qx(ha:PE X a ta)(hb:PE X (.BoolOp .And (b::rest) pos) tb):PE X (.BoolOp .And (a::b::rest) pos) (UN ta tb):=by
 intro pins s σ H Q I h
 refine BoolOp_and (cj (ha pins s σ H _ I h) fun v s1 ⟨x,H1,I1,r1,q1⟩=>?_)
 obtain⟨c,rfl,q1⟩:=q1
 cases r1
 refine wpAny_truthy_bool ?_
 cases c with
 |true=>exact hb pins s1 σ H1 Q I1 q1
 |false=>exact⟨.bl false,H1,I1,rfl,q1⟩
def tIf(t:TT)(ta tb:TE):TE:=fun σ H Q=>t σ H fun c H1=>if c=true then ta σ H1 Q else tb σ H1 Q
theorem HE{c:Expr}(hc:PT X c tA)(ha:PE X a ta)(hb:PE X b tb):PE X (.IfExp c a b pos) (tIf tA ta tb):=by
 intro pins s σ H Q I h
 refine wpAny_IfExp (cj (hc pins s σ H _ I h) fun d s1 ⟨H1,I1,q1⟩=>?_)
 cases d with
 |true=>exact ha pins s1 σ H1 Q I1 q1
 |false=>exact hb pins s1 σ H1 Q I1 q1
end
end L2
namespace L2
open PySem PySem.Spec PyProof.Rows
def ck(K:PySem.W.Frag)(H:Hp)(a:Addr)(xs:List V):Prop:=
 Rd H a (.lst xs)\/
  ∃(o:Obj)(its:Array Value)(n:Nat),K.lookup a=some o/\o.cls=.type "list"/\o.dict=none/\o.data=.seq its n/\its.size<=sizeLine/\Vals xs its.toList
def AF(K:PySem.W.Frag)(H:Hp)(a:Addr)(xs:List V):Prop:=
 Rd H a (.tup xs)\/
  ∃(o:Obj)(its:Array Value)(n:Nat),K.lookup a=some o/\o.cls=.type "tuple"/\o.data=.seq its n/\its.size<=sizeLine/\Vals xs its.toList
def YT:Value->Option V
 |.none=>some .non
 |.bool b=>some (.bl b)
 |.int i _=>some (.int i)
 |.str x _=>some (.str x)
 |.bytes b _=>some (.Hf b)
 |.float b _=>some (.Qm b)
 |.ref a=>some (.ref a)
 |.type n=>some (.ty n)
 |_=>none
theorem RelV.abs {x:V}{u:Value}(r:RelV x u):YT u=some x:=by
 cases x with
 |non=>cases r;rfl
 |bl _=>cases r;rfl
 |int _=>obtain⟨t,rfl⟩:=r;rfl
 |str _=>obtain⟨t,rfl⟩:=r;rfl
 |Hf _=>obtain⟨t,rfl⟩:=r;rfl
 |Qm _=>obtain⟨t,rfl⟩:=r;rfl
 |ref _=>cases r;rfl
 |ty _=>cases r;rfl
theorem RelV.inj {x y:V}{u:Value}(r:RelV x u)(q:RelV y u):x=y:=Option.some.inj (r.abs.symm.trans q.abs)
theorem Vals.inj:∀{xs ys:List V}{us:List Value},Vals xs us->Vals ys us->xs=ys
 |_,_,_,.nil,.nil=>rfl
 |_,_,_,.cons r t,.cons r' t'=>by rw[r.inj r',Vals.inj t t']
section
variable{X:Cx}{pins:List (Addr×Obj)}{σ:St}{H:Hp}{s:Shared}{a:Addr}{xs ys:List V}
theorem ck.of {K:PySem.W.Frag}(h:H a=some (.lst xs)):ck K H a xs:=.inl (.inl h)
theorem AF.of {K:PySem.W.Frag}(h:H a=some (.tup xs)):AF K H a xs:=.inl (.inl h)
theorem Inv.list (I:Inv X pins σ H s)(h:ck X.K H a xs):∃its:List Value,Vals xs its/\PlainL s.heap a its.toArray/\xs.length<=sizeLine:=by
 rcases h with h|⟨o,its,n,hk,hc,hd,hs,hz,r⟩
 ·obtain⟨z,its,n,r,e⟩:=h.ok I.hok
  exact⟨its,r,⟨_,n,e,rfl,rfl,rfl⟩,z⟩
 ·refine⟨its.toList,r,⟨o,n,I.tK a o hk,hc,hd,by simpa using hs⟩,?_⟩
  have e:=r.length
  simp only [Array.length_toList]at e
  omega
theorem Inv.tuple (I:Inv X pins σ H s)(h:AF X.K H a xs):∃its:List Value,Vals xs its/\IsTup s.heap a its.toArray/\xs.length<=sizeLine:=by
 rcases h with h|⟨o,its,n,hk,hc,hs,hz,r⟩
 ·obtain⟨z,its,r,p⟩:=h.ok I.hok
  exact⟨its,r,p,z⟩
 ·refine⟨its.toList,r,⟨o,I.tK a o hk,hc,n,by simpa using hs⟩,?_⟩
  have e:=r.length
  simp only [Array.length_toList]at e
  omega
theorem Inv.mH (I:Inv X pins σ H s)(h:ck X.K H a xs)(h':ck X.K H a ys):xs=ys:=by
 obtain⟨its,r,⟨o,n,e,_,_,d⟩,_⟩:=I.list h
 obtain⟨its',r',⟨o',n',e',_,_,d'⟩,_⟩:=I.list h'
 rw[e]at e';cases e'
 rw[d]at d'
 injection d' with d1 _
 have:its=its':=by simpa using congrArg toList d1
 subst this
 exact r.inj r'
theorem Inv.F5 (I:Inv X pins σ H s)(h:AF X.K H a xs)(h':AF X.K H a ys):xs=ys:=by
 obtain⟨its,r,⟨o,e,_,n,d⟩,_⟩:=I.tuple h
 obtain⟨its',r',⟨o',e',_,n',d'⟩,_⟩:=I.tuple h'
 rw[e]at e';cases e'
 rw[d]at d'
 injection d' with d1 _
 have:its=its':=by simpa using congrArg toList d1
 subst this
 exact r.inj r'
end
abbrev Cx.x5 (X:Cx)(E:Value->Shared->Prop):Cx:={X with xe:=E}
abbrev Cx.Hg (X:Cx):Cx:=X.x5 fun _ _=>False
theorem Cx.Ok.x5 {X:Cx}(ok:X.Ok)(E:Value->Shared->Prop):(X.x5 E).Ok:=
 ⟨ok.mod,ok.kind,ok.glob,ok.blt,ok.above,ok.inj,ok.has,ok.T8,ok.hd,ok.frames,ok.UJ,ok.UK,ok.bs,ok.Lj,ok.F3,ok.Cw,ok.tJ,ok.NZ⟩
theorem Cx.Ok.o6 {X:Cx}{E:Value->Shared->Prop}(ok:(X.x5 E).Ok):X.Ok:=
 ⟨ok.mod,ok.kind,ok.glob,ok.blt,ok.above,ok.inj,ok.has,ok.T8,ok.hd,ok.frames,ok.UJ,ok.UK,ok.bs,ok.Lj,ok.F3,ok.Cw,ok.tJ,ok.NZ⟩
section
variable{X:Cx}{pins:List (Addr×Obj)}{σ:St}{H:Hp}{s:Shared}{E:Value->Shared->Prop}
theorem Inv.x5 (I:Inv X pins σ H s)(E:Value->Shared->Prop):Inv (X.x5 E) pins σ H s:=⟨I.ok.x5 E,I.os,I.bare,I.base,I.loc,I.cell,I.free,I.qC,I.pin,I.hok,I.len⟩
theorem Inv.o6 (I:Inv (X.x5 E) pins σ H s):Inv X pins σ H s:=⟨I.ok.o6,I.os,I.bare,I.base,I.loc,I.cell,I.free,I.qC,I.pin,I.hok,I.len⟩
theorem SP.o6 {D:Ends}{f:Flow}{s':Shared}(h:SP (X.x5 E) pins D f s'):SP X pins D f s':=by
 cases f with
 |next=>obtain⟨σ',H',I,q⟩:=h;exact⟨σ',H',I.o6,q⟩
 |brk=>obtain⟨σ',H',I,q⟩:=h;exact⟨σ',H',I.o6,q⟩
 |cont=>obtain⟨σ',H',I,q⟩:=h;exact⟨σ',H',I.o6,q⟩
 |ret u=>obtain⟨v,σ',H',I,r,q⟩:=h;exact⟨v,σ',H',I.o6,r,q⟩
theorem qD.Hg {st:List Stmt}{t:TS}(h:qD X.Hg st t):qD X st t:=fun pins s σ H D I hw=>
 wpAny_mono (h pins s σ H D (I.x5 _) hw) (fun _ _ q=>q.o6) fun _ _ z=>False.elim z
end
section
variable{X:Cx}{st:Stmt}{rest:List Stmt}{t u:TS}{e:Expr}{te:TE}{pos:Pos}
def UO:TS:=fun D σ H=>D.nx σ H
def YU(t u:TS):TS:=fun D σ H=>t {D with nx:=u D} σ H
theorem ly:qD X [] UO:=fun _ _ σ H _ I h=>wpAny_execs_nil ⟨σ,H,I,h⟩
theorem aC(h1:PS X st t)(h2:qD X rest u):qD X (st::rest) (YU t u):=by
 intro pins s σ H D I h
 refine wpAny_execs_cons (cj (h1 pins s σ H {D with nx:=u D} I h) fun f s1 q=>?_)
 cases f with
 |next=>
  obtain⟨σ',H',I',q⟩:=q
  exact h2 pins s1 σ' H' D I' q
 |ret v=>exact q
 |brk=>exact q
 |cont=>exact q
theorem bU(h1:PS X st t):qD X [st] t:=by
 intro pins s σ H D I h
 refine wpAny_execs_cons (cj (h1 pins s σ H D I h) fun f s1 q=>?_)
 cases f with
 |next=>exact wpAny_execs_nil q
 |ret v=>exact q
 |brk=>exact q
 |cont=>exact q
def Qy:TS:=fun D σ H=>D.bk σ H
theorem HF:PS X (.Break pos) Qy:=fun _ _ σ H _ I h=>wpAny_Break ⟨σ,H,I,h⟩
theorem Inv.quiet {pins:List (Addr×Obj)}{σ:St}{H:Hp}{s:Shared}(I:Inv X pins σ H s):interactive X.env=false:=by simp[interactive,I.ok.kind]
def UQ(te:TE):TS:=fun D σ H=>te σ H fun _ H1=>D.nx σ H1
theorem gf(he:PE X e te)(hs:swapsWith e none pos.line X.env=pure false:=by rfl):PS X (.Expr e pos) (UQ te):=by
 intro pins s σ H D I h
 exact wpAny_Expr_any (cj (he pins s σ H _ I h) fun v s1 ⟨x,H1,I1,r1,q1⟩=>⟨σ,H1,I1,q1⟩) I.quiet hs
def YV(te:TE):TS:=fun D σ H=>te σ H D.rt
theorem lW(he:PE X e te):PS X (.Return (some e) pos) (YV te):=by
 intro pins s σ H D I h
 exact wpAny_Return_some (cj (he pins s σ H _ I h) fun v s1 ⟨x,H1,I1,r1,q1⟩=>⟨x,σ,H1,I1,r1,q1⟩)
def YW(c:TT)(t u:TS):TS:=fun D σ H=>c σ H fun b H1=>if b=true then t D σ H1 else u D σ H1
theorem uR{c:Expr}{a b:List Stmt}{tc:TT}(hc:PT X c tc)(ha:qD X a t)(hb:qD X b u):PS X (.If c a b pos) (YW tc t u):=by
 intro pins s σ H D I h
 refine wpAny_If (cj (hc pins s σ H _ I h) fun d s1 ⟨H1,I1,q1⟩=>?_)
 cases d with
 |true=>exact ha pins s1 σ H1 D I1 q1
 |false=>exact hb pins s1 σ H1 D I1 q1
end
abbrev TG:=V->St->Hp->(St->Hp->Prop)->Prop
abbrev LN:=List V->St->Hp->(St->Hp->Prop)->Prop
def PG(X:Cx)(target:Expr)(t:TG):Prop:=
 ∀(pins:List (Addr×Obj))(s:Shared)(σ:St)(H:Hp)(v:V)(u:Value)(Q:St->Hp->Prop),Inv X pins σ H s->RelV v u->t v σ H Q->
  wpAny (model X.prog X.w) X.A (assign target X.env u) (fun _ s'=>∃σ' H',Inv X pins σ' H' s'/\Q σ' H') X.xe s
def DX(X:Cx)(ts:List Expr)(t:LN):Prop:=
 ∀(pins:List (Addr×Obj))(s:Shared)(σ:St)(H:Hp)(vs:List V)(us:List Value)(Q:St->Hp->Prop),Inv X pins σ H s->Vals vs us->t vs σ H Q->
  wpAny (model X.prog X.w) X.A (assignInOrder ((assignEach ts X.env).map (·.2)) us) (fun _ s'=>∃σ' H',Inv X pins σ' H' s'/\Q σ' H') X.xe s
abbrev Qz:=V->V->V->Hp->(Hp->Prop)->Prop
def UR(X:Cx)(t:Qz):Prop:=
 ∀(pins:List (Addr×Obj))(s:Shared)(σ:St)(H:Hp)(o i v:V)(ov iv u:Value)(Q:Hp->Prop),Inv X pins σ H s->RelV o ov->RelV i iv->RelV v u->t o i v H Q->
  wpAny (model X.prog X.w) X.A (setItem ov iv u) (fun _ s'=>∃H',Inv X pins σ H' s'/\Q H') X.xe s
abbrev XO:=V->V->Hp->VK->Prop
def T9(X:Cx)(op:Operator)(t:XO):Prop:=
 ∀(pins:List (Addr×Obj))(s:Shared)(σ:St)(H:Hp)(x y:V)(v u:Value)(Q:VK),Inv X pins σ H s->RelV x v->RelV y u->t x y H Q->
  wpAny (model X.prog X.w) X.A (inplaceOp op v u) (EP X pins σ Q) X.xe s
section
variable{X:Cx}{pos:Pos}
def HG(i:Nat):TG:=fun v σ H Q=>Q (σ.set i (some v)) H
theorem zj{i:Nat}{x:Str}(hN:X.N.Nodup)(hi:X.N[i]?=some x)(hx:Loc X.env.scope x)(hf:X.fn x=true\/X.env.scope.names.lookup x=some .local:=by first|exact .inl rfl|exact .inr rfl|assumption):PG X (.Name x pos) (HG i):=by
 intro pins s σ H v u Q I r h
 exact wpAny_assign_Name (wA I hN hi hx r (fun s' I'=>⟨_,H,I',h⟩) hf)
def YX:LN:=fun vs σ H Q=>vs=[]/\Q σ H
def UT(t:TG)(u:LN):LN:=fun vs σ H Q=>∃v r,vs=v::r/\t v σ H fun σ' H'=>u r σ' H' Q
theorem LO:DX X [] YX:=by
 intro pins s σ H vs us Q I r h
 obtain⟨e,h⟩:=h
 subst e
 cases r
 exact assignInOrder_nil ⟨σ,H,I,h⟩
theorem HH{e:Expr}{es:List Expr}{t:TG}{u:LN}(h1:PG X e t)(h2:DX X es u)
  (hs:(assignEach (e::es) X.env).map (·.2)=assign e X.env::(assignEach es X.env).map (·.2):=by rfl):DX X (e::es) (UT t u):=by
 intro pins s σ H vs us Q I r h
 obtain⟨v,vr,e1,h⟩:=h
 subst e1
 cases r with
 |cons r rr=>
  rw[hs]
  refine assignInOrder_cons (cj (h1 pins s σ H _ _ _ I r h) fun _ s1 ⟨σ1,H1,I1,q1⟩=>?_)
  exact h2 pins s1 σ1 H1 _ _ Q I1 rr q1
def YY(K:PySem.W.Frag)(n:Nat)(t:LN):TG:=fun v σ H Q=>∃a xs,v=.ref a/\AF K H a xs/\xs.length=n/\t xs σ H Q
theorem QA{es:List Expr}{k:Nat}{t:LN}{n:Nat}(hc:X.calm=true)(h:DX X es t)
  (hn:(assignEach es X.env).length=n:=by rfl)(hst:(assignEach es X.env).findIdx? (·.1)=none:=by rfl):PG X (.Tuple es k pos) (YY X.K n t):=by
 intro pins s σ H v u Q I r hw
 obtain⟨a,xs,e1,hq,hl,hw⟩:=hw
 subst e1
 cases r
 obtain⟨its,rv,ht,hz⟩:=I.tuple hq
 refine assign_Tuple_tuple (I.ok.hd hc) ht (by simp[hn,<-hl,rv.length]) hst fun h' hx=>?_
 have I1:Inv X pins σ H {s with heap:=h'}:=I.kept (t':=s.toks) fun b o e=>hx b o (ne_of_lt (Heap.lt_size e)) e
 exact h pins _ σ H xs _ Q I1 (by simpa using rv) hw
def YZ(to ti:TE)(t:Qz):TG:=fun v σ H Q=>to σ H fun o H1=>ti σ H1 fun i H2=>t o i v H2 fun H3=>Q σ H3
theorem Cz{o i:Expr}{to ti:TE}{t:Qz}(ho:PE X o to)(hi:PE X i ti)(hs:UR X t)
  (ha:∀v,assign (.Subscript o i pos) X.env v=(do
   let ov<-holding [v] (eval o X.env)
   let iv<-holding [v,ov] (eval i X.env)
   standAt pos
   holding [v,ov,iv] (setItem ov iv v)
   release [v,ov,iv] []):=by intro _;rfl):PG X (.Subscript o i pos) (YZ to ti t):=by
 intro pins s σ H v u Q I r h
 rw[ha]
 refine wpAny_bind (wpAny_holding (cj (ho pins s σ H _ I h) fun ov s1 ⟨x,H1,I1,r1,q1⟩=>?_))
 refine wpAny_bind (wpAny_holding (cj (hi pins s1 σ H1 _ I1 q1) fun iv s2 ⟨y,H2,I2,r2,q2⟩=>?_))
 refine wpAny_bind (wpAny_standAt (wpAny_bind (wpAny_holding (cj (hs pins s2 σ H2 x y v ov iv u _ I2 r1 r2 r q2) fun _ s3 ⟨H3,I3,q3⟩=>?_))))
 exact wpAny_release ⟨σ,H3,I3,q3⟩
def UU(te:TE)(g:TG):TS:=fun D σ H=>te σ H fun x H1=>g x σ H1 D.nx
theorem CA{tg e:Expr}{te:TE}{g:TG}(he:PE X e te)(hg:PG X tg g)(hs:swapsWithSole [tg] e pos.line X.env=pure false:=by rfl)(hw:swappedStores [tg] e X.env=pure none:=by rfl)
  (h1:(assignEach [tg] X.env).map (·.2)=[assign tg X.env]:=by rfl):PS X (.Assign [tg] e pos) (UU te g):=by
 intro pins s σ H D I h
 refine wpAny_Assign_stores (cj (he pins s σ H _ I h) fun v s1 ⟨x,H1,I1,r1,q1⟩=>?_) hs hw
 rw[h1]
 exact cj (hg pins s1 σ H1 x v _ I1 r1 q1) fun _ s2 q=>q
theorem cY{i:Nat}{x:Str}{e:Expr}{te:TE}{pos':Pos}(hN:X.N.Nodup)(hi:X.N[i]?=some x)(hx:Loc X.env.scope x)(he:PE X e te)(hs:swapsWith e (some (.Name x pos')) pos.line X.env=pure false:=by rfl)(hf:X.fn x=true\/X.env.scope.names.lookup x=some .local:=by first|exact .inl rfl|exact .inr rfl|assumption):
  PS X (.Assign [.Name x pos'] e pos) (UU te (HG i)):=by
 intro pins s σ H D I h
 refine wpAny_Assign_Name (cj (he pins s σ H _ I h) fun v s1 ⟨y,H1,I1,r1,q1⟩=>?_) hs
 exact wA I1 hN hi hx r1 (fun s2 I2=>⟨_,H1,I2,q1⟩) hf
def Y0(i:Nat)(te:TE)(ti:XO):TS:=fun D σ H=>∃x,σ[i]?=some (some x)/\te σ H fun y H1=>ti x y H1 fun z H2=>D.nx (σ.set i (some z)) H2
theorem CB{i:Nat}{x:Str}{e:Expr}{te:TE}{op:Operator}{ti:XO}{pos':Pos}(hN:X.N.Nodup)(hi:X.N[i]?=some x)(hx:Loc X.env.scope x)(he:PE X e te)(ho:T9 X op ti)(hf:X.fn x=true\/X.env.scope.names.lookup x=some .local:=by first|exact .inl rfl|exact .inr rfl|assumption):
  PS X (.AugAssign (.Name x pos') op e pos) (Y0 i te ti):=by
 intro pins s σ H D I h
 obtain⟨v,e1,h⟩:=h
 obtain⟨m,hn,hl⟩:=I.loc
 have vis:wz X.env.scope x:=by rcases hx with k|k;exact .inl k;exact .inr (.inl k)
 obtain⟨u,r,l⟩:=hl i x v hi e1 vis
 refine wpAny_AugAssign_Name ?_
 have go:wpAny (model X.prog X.w) X.A (eval e X.env) (fun w s₂=>wpAny (model X.prog X.w) X.A (inplaceOp op u w) (fun r s₃=>wpAny (model X.prog X.w) X.A (storeName X.env x r) (fun _=>SP X pins D .next) X.xe s₃) X.xe s₂) X.xe s:=by
  refine cj (he pins s σ H _ I h) fun w s1 ⟨y,H1,I1,r1,q1⟩=>?_
  refine cj (ho pins s1 σ H1 v y u w _ I1 r r1 q1) fun z s2 ⟨zv,H2,I2,r2,q2⟩=>?_
  exact wA I2 hN hi hx r2 (fun s3 I3=>⟨_,H2,I3,q2⟩) hf
 rcases l with⟨hk,hm⟩|⟨hk,c,hc,hcell⟩
 ·exact wpAny_loadName_local I.ok.kind hk hn hm go
 ·rcases hk with hk|hk
  ·exact wpAny_loadName_cell I.ok.kind hk hc hcell go
  ·rcases hx with k|k
   ·have:X.env.scope.names.lookup x=some .free:=hk
    rw[k]at this;cases this
   ·have:X.env.scope.names.lookup x=some .free:=hk
    rw[k]at this;cases this
def UW(f:Int->Int->Int):XO:=fun x y H Q=>∃i j,x=.int i/\y=.int j/\Q (.int (f i j)) H
theorem HJ:T9 X .Add (UW fun i j=>i+j):=by
 intro pins s σ H x y v u Q I r1 r2 h
 obtain⟨i,j,e1,e2,q⟩:=h
 subst e1;subst e2
 obtain⟨t,rfl⟩:=r1
 obtain⟨t',rfl⟩:=r2
 exact iadd_int ⟨.int _,H,I.tok _,⟨_,rfl⟩,q⟩
theorem QB:T9 X .Sub (UW fun i j=>i-j):=by
 intro pins s σ H x y v u Q I r1 r2 h
 obtain⟨i,j,e1,e2,q⟩:=h
 subst e1;subst e2
 obtain⟨t,rfl⟩:=r1
 obtain⟨t',rfl⟩:=r2
 exact isub_int ⟨.int _,H,I.tok _,⟨_,rfl⟩,q⟩
end
section
variable{X:Cx}{pos:Pos}
def QC(c:TT)(tb:TS):TS:=fun D σ H=>∃W:Nat->St->Hp->Prop,(∃m,W m σ H)/\∀m σ H,W m σ H->
 c σ H fun b H1=>if b=true then∃N:St->Hp->Prop,(∀σ' H',N σ' H'->∃m',m'<m/\W m' σ' H')/\tb {D with nx:=N,ct:=N,bk:=D.nx} σ H1 else D.nx σ H1
theorem rz{c:Expr}{body:List Stmt}{tc:TT}{tb:TS}(hp:PassesOwn (model X.prog X.w) X.A X.env X.xe)(hc:PT X c tc)(hb:qD X body tb):PS X (.While c body [] pos) (QC tc tb):=by
 intro pins s σ H D I h
 obtain⟨W,⟨m0,w0⟩,turn⟩:=h
 refine wpAny_While (codeAny_whileLoop (fun n s'=>∃σ' H',Inv X pins σ' H' s'/\W n σ' H') ?_ m0 ⟨σ,H,I,w0⟩)
 rintro n s1 ⟨σ1,H1,I1,w1⟩
 refine wpAny_passesOwn hp (cj (hc pins s1 σ1 H1 _ I1 (turn n σ1 H1 w1)) fun b s2 ⟨H2,I2,q2⟩=>?_)
 cases b with
 |true=>
  obtain⟨N,hN,q2⟩:=q2
  rw[if_pos rfl]
  refine wpAny_passesOwn hp (cj (hb pins s2 σ1 H2 _ I2 q2) fun f s3 q3=>?_)
  cases f with
  |next=>
   obtain⟨σ3,H3,I3,n3⟩:=q3
   obtain⟨m',hm,w3⟩:=hN σ3 H3 n3
   exact⟨m',hm,σ3,H3,I3,w3⟩
  |cont=>
   obtain⟨σ3,H3,I3,n3⟩:=q3
   obtain⟨m',hm,w3⟩:=hN σ3 H3 n3
   exact⟨m',hm,σ3,H3,I3,w3⟩
  |brk=>exact q3
  |ret v=>exact q3
 |false=>
  rw[if_neg Bool.false_ne_true]
  exact wpAny_execs_nil ⟨σ1,H2,I2,q2⟩
end
structure It where
 go:Nat->Hp->Prop
 UX:Nat->Hp->V->Hp->Prop
 stop:Nat->Hp->Prop
def nA(X:Cx)(pins:List (Addr×Obj))(H:Hp)(b:Addr):Prop:=
 H b=none/\b≠X.env.locals/\b∉X.fs/\(b∈X.ex\/X.s₀.heap.objs.size<=b)/\(∀x c,X.env.cells.lookup x=some c->c≠b)/\∀p∈X.pn++pins,p.1≠b
theorem Inv.CC {X:Cx}{pins:List (Addr×Obj)}{σ:St}{H H':Hp}{s:Shared}{b:Addr}(I:Inv X pins σ H s)(hb:s.heap.objs.size<=b)(hn:H' b=none):nA X pins H' b:=by
 refine⟨hn,ne_of_gt (lt_of_lt_of_le I.lt hb),I.YL hb,.inr (le_trans I.sz hb),fun x c e z=>?_,fun p hp z=>?_⟩
 ·obtain⟨v,q⟩:=I.cell x c e
  exact absurd (lt_of_lt_of_le q.lt (by rw[z];exact hb)) (Nat.lt_irrefl _)
 ·exact absurd (lt_of_lt_of_le (Heap.lt_size (I.pin p hp).1) (by rw[z];exact hb)) (Nat.lt_irrefl _)
structure Turn(P:Program)(w:World)(K:PySem.W.Frag)(tg:Expr)(J:It)(fp:List Addr)(it:Addr)(tn:Nat->Heap->Prop):Prop where
 mem:it∈fp
 obj:∀i h,tn i h->∀b∈fp,∃o,h.get? b=some o/\∀v,o.data≠.cell v
 keep:∀i h h',tn i h->(∀b∈fp,∀o,h.get? b=some o->h'.get? b=some o)->tn i h'
 item:∀(X:Cx),X.prog=P->X.w=w->X.K=K->X.calm=true->∀(i:Nat)(pins:List (Addr×Obj))(s:Shared)(σ:St)(H:Hp)(E:Value->Shared->Prop),Inv X pins σ H s->(∀b∈fp,nA X pins H b)->tn i s.heap->J.go i H->
  wpAny (model P w) X.A (pyNext (.ref it)) (fun r s1=>∃u,r=some u/\
   wpAny (model P w) X.A (letOwnedTupleGo tg (.ref it) u) (fun _ s2=>∃x H',Inv X pins σ H' s2/\RelV x u/\J.UX i H x H'/\tn (i+1) s2.heap/\∀b∈fp,H' b=none) E s1) E s
 done:∀(X:Cx),X.prog=P->X.w=w->X.K=K->X.calm=true->∀(i:Nat)(pins:List (Addr×Obj))(s:Shared)(σ:St)(H:Hp)(E:Value->Shared->Prop),Inv X pins σ H s->(∀b∈fp,nA X pins H b)->tn i s.heap->J.stop i H->
  wpAny (model P w) X.A (pyNext (.ref it)) (fun r s1=>r=none/\Inv X pins σ H s1) E s
 self:∀(A:Around)(i:Nat)(s:Shared)(Q:Value->Shared->Prop)(E:Value->Shared->Prop),tn i s.heap->Q (.ref it) s->wpAny (model P w) A (pyIter (.ref it)) Q E s
abbrev TI:=St->Hp->(It->Hp->Prop)->Prop
def PIE(X:Cx)(pins:List (Addr×Obj))(σ:St)(tg:Expr)(R:It->Hp->Prop)(itv:Value)(s2:Shared):Prop:=
 ∃(it:Addr)(fp:List Addr)(tn:Nat->Heap->Prop)(J:It)(H':Hp),itv=.ref it/\Inv X pins σ H' s2/\Turn X.prog X.w X.K tg J fp it tn/\tn 0 s2.heap/\(∀b∈fp,nA X pins H' b)/\R J H'
def PI(X:Cx)(tg iter:Expr)(wi:TI):Prop:=
 ∀(pins:List (Addr×Obj))(s:Shared)(σ:St)(H:Hp)(R:It->Hp->Prop),Inv X pins σ H s->wi σ H R->
  wpAny (model X.prog X.w) X.A (eval iter X.env) (fun v s1=>wpAny (model X.prog X.w) X.A (pyIter v) (PIE X pins σ tg R) X.xe s1) X.xe s
theorem HK{M:Model}{A:Around}{E:Value->Shared->Prop}{s:Shared}{tg:Expr}{it:Addr}{u:Value}{o:Obj}{n:String}{vs:Array Value}{Q:Unit->Shared->Prop}(ho:s.heap.get? it=some o)(hc:o.cls=.type n)(hd:o.data=.fields vs)
  (hn:["enumerate","zip","dict_itemiterator","dict_reverseitemiterator","odict_iterator","itertools.zip_longest","itertools.pairwise"].contains n=false)(hQ:Q () s):wpAny M A (letOwnedTupleGo tg (.ref it) u) Q E s:=by
 unfold letOwnedTupleGo
 cases tg<;>first
  |exact wpAny_pure hQ
  |(cases u<;>first
    |exact wpAny_pure hQ
    |(refine wpAny_bind (wpAny_load ho ?_)
      rw[hc,hd]
      show wpAny M A (if(["enumerate","zip","dict_itemiterator","dict_reverseitemiterator","odict_iterator","itertools.zip_longest","itertools.pairwise"].contains n&&vs[0]?==some (rawInt _))=true then _ else _) Q E s
      rw[if_neg (by intro h;rw[hn,Bool.false_and]at h;cases h)]
      exact wpAny_pure hQ))
def QD(K:PySem.W.Frag)(a:Addr):It:=
 ⟨fun i H=>∃xs x,ck K H a xs/\xs[i]?=some x,fun i H x H'=>H'=H/\∀xs,ck K H a xs->xs[i]?=some x,fun i H=>∃xs,ck K H a xs/\xs.length<=i⟩
def UY(lo:Int)(n:Nat):It:=⟨fun i _=>i<n,fun i H x H'=>H'=H/\x=.int (lo+i),fun i _=>n<=i⟩
theorem F6{P:Program}{w:World}{K:PySem.W.Frag}{tg:Expr}(a it:Addr):Turn P w K tg (QD K a) [it] it (fun i h=>h.IsListIter it a i) where
 mem:=by simp
 obj:=fun i h st b hb=>by
  have e:b=it:=by simpa using hb
  subst e
  obtain⟨o,e,c,d⟩:=st
  exact⟨o,e,fun v z=>by rw[d]at z;cases z⟩
 keep:=fun i h h' st k=>st.at fun o e=>k it (by simp) o e
 item:=by
  intro X hP hw hK hc i pins s σ H E I hf st hg
  subst hP hw hK
  obtain⟨xs,x,hq,hx⟩:=hg
  obtain⟨its,rv,p,hz⟩:=I.list hq
  obtain⟨u,hu,ru⟩:=rv.get hx
  obtain⟨f0,f1,f2,f3,f4,f5⟩:=hf it (by simp)
  refine wpAny_pyNext_list_item st p.isList (x:=u) (by simpa using hu) fun h' LP sb=>?_
  have I1:Inv X pins σ H {s with heap:=h'}:=I.turned (t':=s.toks) (fun b o hb e=>(sb.2 b hb).trans e) f0 f1 f3 f4 f5
  obtain⟨o,e,c,d⟩:=id LP
  exact⟨u,rfl,HK (s:={s with heap:=h'}) e c d (by decide) ⟨x,H,I1,ru,⟨rfl,fun ys hy=>by rw[I.mH hy hq];exact hx⟩,LP,fun b hb=>(hf b hb).1⟩⟩
 done:=by
  intro X hP hw hK hc i pins s σ H E I hf st hg
  subst hP hw hK
  obtain⟨xs,hq,hx⟩:=hg
  obtain⟨its,rv,p,hz⟩:=I.list hq
  obtain⟨f0,f1,f2,f3,f4,f5⟩:=hf it (by simp)
  have hl:=rv.length
  exact wpAny_pyNext_list_end (I.ok.hd hc) st p.isList (by simp;omega) fun h' eb=>⟨rfl,I.turned (t':=s.toks) (fun b o hb e=>eb b o hb e) f0 f1 f3 f4 f5⟩
 self:=fun _ _ _ _ _ st h=>wpAny_pyIter_listiter st h
theorem CD{P:Program}{w:World}{K:PySem.W.Frag}{tg:Expr}(it:Addr)(lo:Int)(n:Nat):Turn P w K tg (UY lo n) [it] it (fun i h=>IsRangeIter h it (lo+(i:Nat)*1) ((n:Int)-(i:Nat)) 1) where
 mem:=by simp
 obj:=fun i h st b hb=>by
  have e:b=it:=by simpa using hb
  subst e
  exact⟨_,st,fun v z=>by
   have z':Data.fields _=Data.cell v:=z
   cases z'⟩
 keep:=fun i h h' st k=>k it (by simp) _ st
 item:=by
  intro X hP hw hK hc i pins s σ H E I hf st hg
  subst hP hw hK
  obtain⟨f0,f1,f2,f3,f4,f5⟩:=hf it (by simp)
  have W:=Walks.range (prog:=X.prog) (w:=X.w) (I.ok.hd hc) it lo 1 n
  refine W.item i s _ _ hg st fun v h' tk hv LP kk=>?_
  obtain⟨t,rfl⟩:=hv
  have I1:Inv X pins σ H {s with heap:=h',toks:=tk}:=I.turned (fun b o hb e=>kk b o (by simpa using hb) e) f0 f1 f3 f4 f5
  refine⟨_,rfl,HK (s:={s with heap:=h',toks:=tk}) (n:="range_iterator") LP rfl rfl (by decide) ⟨.int (lo+i),H,I1,⟨t,?_⟩,⟨rfl,rfl⟩,LP,fun b hb=>(hf b hb).1⟩⟩
  rw[Int.mul_one]
 done:=by
  intro X hP hw hK hc i pins s σ H E I hf st hg
  subst hP hw hK
  obtain⟨f0,f1,f2,f3,f4,f5⟩:=hf it (by simp)
  exact wpAny_pyNext_range_end (I.ok.hd hc) st (by have:n<=i:=hg;omega) fun h' eb=>⟨rfl,I.turned (t':=s.toks) (fun b o hb e=>eb b o hb e) f0 f1 f3 f4 f5⟩
 self:=fun _ _ _ _ _ st h=>wpAny_pyIter_rangeiter st h
end L2
namespace L2
open PySem PySem.Spec PyProof.Rows
section
variable{X:Cx}{tg:Expr}
def HL(K:PySem.W.Frag)(tl:TE):TI:=fun σ H R=>tl σ H fun x H1=>∃a,x=.ref a/\(∃xs,ck K H1 a xs)/\R (QD K a) H1
theorem vN{l:Expr}{tl:TE}(hl:PE X l tl):PI X tg l (HL X.K tl):=by
 intro pins s σ H R I h
 refine cj (hl pins s σ H _ I h) fun v s1 ⟨x,H1,I1,r1,q1⟩=>?_
 obtain⟨a,e,⟨xs,hq⟩,q⟩:=q1
 subst e
 cases r1
 obtain⟨its,rv,p,hz⟩:=I1.list hq
 refine wpAny_pyIter_list p.isList ?_
 refine⟨s1.heap.objs.size,[s1.heap.objs.size],_,_,H1,rfl,I1.kept (t':=s1.toks) fun b o e=>Heap.get?_push_of_some _ e,F6 a _,⟨_,Heap.get?_push_size _ rfl,rfl,rfl⟩,fun b hb=>?_,q⟩
 have e:b=s1.heap.objs.size:=by simpa using hb
 subst e
 exact I1.CC (Nat.le_refl _) (I1.hok.fresh (Nat.le_refl _))
theorem AG{pins:List (Addr×Obj)}{σ:St}{H:Hp}{s:Shared}{R:It->Hp->Prop}{E:Value->Shared->Prop}{lo hi:Int}{t u v:Tok}{tk:Nat}(I:Inv X pins σ H s)(h1: -(2^62)<=lo)(h2:lo<2^62)(h3: -(2^62)<=hi)(h4:hi<2^62)
  (q:R (UY lo (hi-lo).toNat) H):wpAny (model X.prog X.w) X.A (pyIter (.ref s.heap.objs.size)) (PIE X pins σ tg R) E {s with heap:=s.heap.push {cls:=.type "range",data:=.fields #[.int lo t,.int hi u,.int 1 v]},toks:=tk}:=by
 refine wpAny_pyIter_range (IsRange.new ..) (small_one h1 h2 h3 h4) ?_
 have I1:Inv X pins σ H {s with heap:=s.heap.push {cls:=.type "range",data:=.fields #[.int lo t,.int hi u,.int 1 v]},toks:=tk}:=I.kept fun b o e=>Heap.get?_push_of_some _ e
 refine⟨(s.heap.push {cls:=.type "range",data:=.fields #[.int lo t,.int hi u,.int 1 v]}).objs.size,[(s.heap.push {cls:=.type "range",data:=.fields #[.int lo t,.int hi u,.int 1 v]}).objs.size],_,_,H,rfl,
  I1.kept (t':=tk) fun b o e=>Heap.get?_push_of_some _ e,CD _ lo (hi-lo).toNat,?_,fun b hb=>?_,q⟩
 ·have e1:lo+((0:Nat):Int)*1=lo:=by simp
  have e2:(((hi-lo).toNat:Nat):Int)-((0:Nat):Int)=Builtin.Range.rangeSize lo hi 1:=by rw[rangeSize_one];split<;>omega
  show IsRangeIter _ _ (lo+((0:Nat):Int)*1) ((((hi-lo).toNat:Nat):Int)-((0:Nat):Int)) 1
  rw[e1,e2]
  exact Heap.get?_push_size _ rfl
 ·have e:b=(s.heap.push {cls:=.type "range",data:=.fields #[.int lo t,.int hi u,.int 1 v]}).objs.size:=by simpa using hb
  subst e
  exact I1.CC (Nat.le_refl _) (I1.hok.fresh (Nat.le_refl _))
def UZ(ta:TA):TI:=fun σ H R=>ta σ H fun vs H1=>∃j:Int,vs=[.int j]/\ -(2^62)<=j/\j<2^62/\R (UY 0 j.toNat) H1
def U0(ta:TA):TI:=fun σ H R=>ta σ H fun vs H1=>∃i j:Int,vs=[.int i,.int j]/\(-(2^62)<=i/\i<2^62/\ -(2^62)<=j/\j<2^62)/\R (UY i (j-i).toNat) H1
theorem F7{a:Expr}{ta:TA}{p pos:Pos}(hg:Gl X "range")(hm:X.mg "range"=none)(ha:PA X [a] ta)(hs:starEach [a] X.env=[(false,eval a X.env)]:=by rfl):PI X tg (.Call (.Name "range" p) [a] [] pos) (UZ ta):=by
 intro pins s σ H R I h
 refine Call_ (gD I hg hm boot_range (PyProof.Rows.callWith_type1 (cj (ha pos pins s σ H _ I h) fun us s1 ⟨vs,H1,I1,r1,q1⟩=>?_) hs rfl))
 obtain⟨j,e,q1,q2,q⟩:=q1
 subst e
 cases r1 with
 |cons r rr=>
  cases rr
  obtain⟨t,rfl⟩:=r
  exact call_range_1 (AG I1 (by omega) (by omega) q1 q2 (by simpa using q))
theorem F8{a b:Expr}{ta:TA}{p pos:Pos}(hg:Gl X "range")(hm:X.mg "range"=none)(ha:PA X [a,b] ta)(hs:starEach [a,b] X.env=[(false,eval a X.env),(false,eval b X.env)]:=by rfl)(hs2:starEach [b] X.env=[(false,eval b X.env)]:=by rfl):
  PI X tg (.Call (.Name "range" p) [a,b] [] pos) (U0 ta):=by
 intro pins s σ H R I h
 refine Call_ (gD I hg hm boot_range (PyProof.Rows.callWith_type1 (cj (ha pos pins s σ H _ I h) fun us s1 ⟨vs,H1,I1,r1,q1⟩=>?_) (by rw[hs,hs2]) (by rw[hs2];rfl)))
 obtain⟨i,j,e,⟨q1,q2,q3,q4⟩,q⟩:=q1
 subst e
 cases r1 with
 |cons r rr=>
  cases rr with
  |cons r' rr=>
   cases rr
   obtain⟨t,rfl⟩:=r
   obtain⟨t',rfl⟩:=r'
   exact call_range_2 (AG I1 q1 q2 q3 q4 q)
def Y1(wi:TI)(g:TG)(tb:TS):TS:=fun D σ H=>wi σ H fun J H1=>∃W:Nat->Nat->St->Hp->Prop,(∃m,W 0 m σ H1)/\∀i m σ H,W i m σ H->
 (J.stop i H/\D.nx σ H)\/(J.go i H/\∃N:St->Hp->Prop,(∀σ' H',N σ' H'->∃m',m'<m/\W (i+1) m' σ' H')/\∀x H',J.UX i H x H'->g x σ H' fun σ2 H2=>tb {D with nx:=N,ct:=N,bk:=D.nx} σ2 H2)
def tN(fp:List Addr)(h:Heap):List (Addr×Obj):=fp.filterMap fun b=>(h.get? b).map fun o=>(b,o)
theorem iQ{fp:List Addr}{h:Heap}{b:Addr}{o:Obj}(hb:b∈fp)(e:h.get? b=some o):(b,o)∈tN fp h:=List.mem_filterMap.mpr ⟨b,hb,by rw[e];rfl⟩
theorem F9{fp:List Addr}{h:Heap}{p:Addr×Obj}(hp:p∈tN fp h):p.1∈fp/\h.get? p.1=some p.2:=by
 obtain⟨b,hb,e⟩:=List.mem_filterMap.mp hp
 cases q:h.get? b with
 |none=>rw[q]at e;cases e
 |some o=>
  rw[q]at e
  have e':(b,o)=p:=Option.some.inj e
  subst e'
  exact⟨hb,q⟩
theorem Inv.pinned {pins:List (Addr×Obj)}{σ:St}{H:Hp}{s:Shared}{fp:List Addr}(I:Inv X pins σ H s)(hf:∀b∈fp,nA X pins H b)(ho:∀b∈fp,∃o,s.heap.get? b=some o/\∀v,o.data≠.cell v):Inv X (pins++tN fp s.heap) σ H s:=
 I.DW fun p hp=>(mem_append.mp hp).elim (fun z=>I.pin p (mem_append_right _ z)) fun z=>by
  obtain⟨hb,e⟩:=F9 z
  obtain⟨f0,f1,f2,_⟩:=hf p.1 hb
  obtain⟨o,e',d⟩:=ho p.1 hb
  rw[e]at e';cases e'
  exact⟨e,f0,f1,f2,d⟩
theorem Inv.mJ {pins pl:List (Addr×Obj)}{σ:St}{H:Hp}{s:Shared}(I:Inv X (pins++pl) σ H s):Inv X pins σ H s:=I.DW fun p hp=>I.pin p (mem_append_right _ (mem_append_left _ hp))
theorem HM{iter:Expr}{body:List Stmt}{wi:TI}{g:TG}{tb:TS}{pos:Pos}(hp:PassesOwn (model X.prog X.w) X.A X.env X.xe)(hc:X.calm=true)(hi:PI X tg iter wi)(hg:PG X tg g)(hb:qD X body tb)
  (hs:∀x,foldedSetIterable iter X.env x=pure x:=by intro _;rfl):PS X (.For tg iter body [] pos) (Y1 wi g tb):=by
 intro pins s σ H D I h
 refine wpAny_For (cj (hi pins s σ H _ I h) fun v s1 h1=>cj h1 fun itv s2 h2=>?_) hs
 obtain⟨it,fp,tn,J,H2,e,I2,T,Ll,f2,W,⟨m0,w0⟩,turn⟩:=h2
 subst e
 have QE:∀{H':Hp},(∀b∈fp,H' b=none)->∀b∈fp,nA X pins H' b:=fun hn b hb=>⟨hn b hb,(f2 b hb).2⟩
 refine codeAny_forLoop_any (fun n s'=>∃i σ' H',Inv X pins σ' H' s'/\tn i s'.heap/\(∀b∈fp,H' b=none)/\W i n σ' H') ?_ m0 ⟨0,σ,H2,I2,Ll,fun b hb=>(f2 b hb).1,w0⟩
 rintro n s3 ⟨i,σ3,H3,I3,st3,tP,w3⟩
 rcases turn i n σ3 H3 w3 with⟨stop,qn⟩|⟨go,N,hN,step⟩
 ·refine wpAny_passesOwn hp (cj (T.done X rfl rfl rfl hc i pins s3 σ3 H3 X.xe I3 (QE tP) st3 stop) fun r s4 ⟨hr,I4⟩=>?_)
  subst hr
  exact wpAny_execs_nil ⟨σ3,H3,I4,qn⟩
 ·refine wpAny_passesOwn hp (cj (T.item X rfl rfl rfl hc i pins s3 σ3 H3 X.xe I3 (QE tP) st3 go) fun r s4 ⟨u,hr,h4⟩=>?_)
  subst hr
  refine wpAny_passesOwn hp (cj h4 fun _ s5 ⟨x,H5,I5,r5,y5,LQ,Ln⟩=>?_)
  have I5':=I5.pinned (QE Ln) (T.obj _ _ LQ)
  refine wpAny_passesOwn hp (cj (hg _ s5 σ3 H5 x u _ I5' r5 (step x H5 y5)) fun _ s6 ⟨σ6,H6,I6,q6⟩=>?_)
  refine wpAny_passesOwn hp (cj (hb _ s6 σ6 H6 _ I6 q6) fun f s7 q7=>?_)
  have again:∀{σ7:St}{H7:Hp},Inv X (pins++tN fp s5.heap) σ7 H7 s7->N σ7 H7->∃m,m<n/\∃i σ' H',Inv X pins σ' H' s7/\tn i s7.heap/\(∀b∈fp,H' b=none)/\W i m σ' H':=fun{σ7 H7} I7 n7=>by
   obtain⟨m',hm,w7⟩:=hN σ7 H7 n7
   refine⟨m',hm,i+1,σ7,H7,I7.mJ,T.keep _ _ _ LQ fun b hb o e=>(I7.pin (b,o) (mem_append_right _ (mem_append_right _ (iQ hb e)))).1,fun b hb=>?_,w7⟩
   obtain⟨o,e,d⟩:=T.obj _ _ LQ b hb
   exact(I7.pin (b,o) (mem_append_right _ (mem_append_right _ (iQ hb e)))).2.1
  cases f with
  |next=>obtain⟨σ7,H7,I7,n7⟩:=q7;exact again I7 n7
  |cont=>obtain⟨σ7,H7,I7,n7⟩:=q7;exact again I7 n7
  |brk=>obtain⟨σ7,H7,I7,q7⟩:=q7;exact⟨σ7,H7,I7.mJ,q7⟩
  |ret v=>obtain⟨x7,σ7,H7,I7,r7,q7⟩:=q7;exact⟨x7,σ7,H7,I7.mJ,r7,q7⟩
end
theorem HN{K:PySem.W.Frag}{a:Addr}{xs:List V}{g:TG}{tb:TS}{D:Ends}{σ:St}{H:Hp}(Pv:Nat->St->Hp->Prop)(h0:Pv 0 σ H)(hl:∀i σ H,i<=xs.length->Pv i σ H->ck K H a xs)
  (hs:∀i x σ H,xs[i]?=some x->Pv i σ H->g x σ H fun σ2 H2=>tb {D with nx:=Pv (i+1),ct:=Pv (i+1),bk:=D.nx} σ2 H2)(hd:∀σ H,Pv xs.length σ H->D.nx σ H):
  ∃W:Nat->Nat->St->Hp->Prop,(∃m,W 0 m σ H)/\∀i m σ H,W i m σ H->
   ((QD K a).stop i H/\D.nx σ H)\/((QD K a).go i H/\∃N:St->Hp->Prop,(∀σ' H',N σ' H'->∃m',m'<m/\W (i+1) m' σ' H')/\∀x H',(QD K a).UX i H x H'->g x σ H' fun σ2 H2=>tb {D with nx:=N,ct:=N,bk:=D.nx} σ2 H2):=by
 refine⟨fun i m σ H=>m=xs.length-i/\i<=xs.length/\Pv i σ H,⟨xs.length,by simp,zero_le _,h0⟩,?_⟩
 rintro i m σ H ⟨rfl,hi,p⟩
 have q:=hl i σ H hi p
 by_cases hlt:i<xs.length
 ·refine .inr ⟨⟨xs,xs[i],q,by simp[hlt]⟩,Pv (i+1),fun σ' H' p'=>⟨xs.length-(i+1),by omega,rfl,hlt,p'⟩,fun x H' y=>?_⟩
  obtain⟨e,y⟩:=y
  subst e
  exact hs i x σ _ (y xs q) p
 ·have e:i=xs.length:=by omega
  subst e
  exact .inl ⟨⟨xs,q,Nat.le_refl _⟩,hd σ H p⟩
end L2
namespace L2
open PySem PySem.Spec PyProof.Rows
abbrev R2:=V->V->Hp->VK->Prop
def tQ(X:Cx)(f:Value->Value->Sem Value)(r:R2):Prop:=
 ∀(pins:List (Addr×Obj))(s:Shared)(σ:St)(H:Hp)(x y:V)(v u:Value)(Q:VK),Inv X pins σ H s->RelV x v->RelV y u->r x y H Q->
  wpAny (model X.prog X.w) X.A (f v u) (EP X pins σ Q) X.xe s
def U1(X:Cx)(f:Value->Sem Value)(r:V->Hp->VK->Prop):Prop:=
 ∀(pins:List (Addr×Obj))(s:Shared)(σ:St)(H:Hp)(x:V)(v:Value)(Q:VK),Inv X pins σ H s->RelV x v->r x H Q->
  wpAny (model X.prog X.w) X.A (f v) (EP X pins σ Q) X.xe s
def qE(X:Cx)(f:Value)(r:List V->Hp->VK->Prop):Prop:=
 ∀(pins:List (Addr×Obj))(s:Shared)(σ:St)(H:Hp)(xs:List V)(us:List Value)(Q:VK),Inv X pins σ H s->Vals xs us->r xs H Q->
  wpAny (model X.prog X.w) X.A (call f us) (EP X pins σ Q) X.xe s
def U3(r:R2)(ta tb:TE):TE:=fun σ H Q=>ta σ H fun x H1=>tb σ H1 fun y H2=>r x y H2 Q
def tUn(r:V->Hp->VK->Prop)(ta:TE):TE:=fun σ H Q=>ta σ H fun x H1=>r x H1 Q
def rI(C:Int->Int->Prop)(g:Int->Int->V):R2:=fun x y H Q=>∃i j,x=.int i/\y=.int j/\C i j/\Q (g i j) H
def DY(g:Int->Int->V):R2:=fun x y H Q=>∃i j,x=.int i/\y=.int j/\Q (g i j) H
def rU(g:Int->V):V->Hp->VK->Prop:=fun x H Q=>∃i,x=.int i/\Q (g i) H
section
variable{X:Cx}{a b c:Expr}{ta tb tc:TE}{pos:Pos}
theorem QF(ha:PE X a ta)(hb:PE X b tb){pins:List (Addr×Obj)}{s:Shared}{σ:St}{H:Hp}{R:V->V->Hp->Prop}(I:Inv X pins σ H s)
  (h:ta σ H fun x H1=>tb σ H1 fun y H2=>R x y H2){Q:Value->Shared->Prop}{f:Value->Value->Sem Value}
  (hf:∀v u s2 x y H2,Inv X pins σ H2 s2->RelV x v->RelV y u->R x y H2->wpAny (model X.prog X.w) X.A (f v u) Q X.xe s2):
  wpAny (model X.prog X.w) X.A (eval a X.env) (fun v s₁=>wpAny (model X.prog X.w) X.A (eval b X.env) (fun u s₂=>wpAny (model X.prog X.w) X.A (f v u) Q X.xe s₂) X.xe s₁) X.xe s:=by
 refine cj (ha pins s σ H _ I h) fun v s1 ⟨x,H1,I1,r1,q1⟩=>?_
 refine cj (hb pins s1 σ H1 _ I1 q1) fun u s2 ⟨y,H2,I2,r2,q2⟩=>?_
 exact hf v u s2 x y H2 I2 r1 r2 q2
theorem qF{op:Operator}{r:R2}(ho:tQ X (binaryOp op) r)(ha:PE X a ta)(hb:PE X b tb):PE X (.BinOp a op b pos) (U3 r ta tb):=by
 intro pins s σ H Q I h
 exact wpAny_BinOp (QF ha hb I h fun v u s2 x y H2 I2 rx ry q=>ho pins s2 σ H2 x y v u Q I2 rx ry q)
theorem DZ{op:UnaryOp}{r:V->Hp->VK->Prop}(ho:U1 X (unaryOp op) r)(ha:PE X a ta):PE X (.UnaryOp op a pos) (tUn r ta):=by
 intro pins s σ H Q I h
 exact UnaryOp_ (cj (ha pins s σ H _ I h) fun v s1 ⟨x,H1,I1,r1,q1⟩=>ho pins s1 σ H1 x v Q I1 r1 q1)
theorem U4{f:Value->Value->Sem Value}{C:Int->Int->Prop}{g:Int->Int->Int}
  (rule:∀(i j:Int)(t u:Tok)(s:Shared)(Q:Value->Shared->Prop)(E:Value->Shared->Prop),C i j->Q (.int (g i j) s.toks) {s with toks:=s.toks+1}->wpAny (model X.prog X.w) X.A (f (.int i t) (.int j u)) Q E s):
  tQ X f (rI C fun i j=>.int (g i j)):=by
 intro pins s σ H x y v u Q I rx ry h
 obtain⟨i,j,rfl,rfl,hc,q⟩:=h
 obtain⟨t,rfl⟩:=rx
 obtain⟨t',rfl⟩:=ry
 exact rule i j t t' s _ _ hc ⟨.int (g i j),H,I.tok _,⟨_,rfl⟩,q⟩
theorem QG{f:Value->Value->Sem Value}{g:Int->Int->Int}
  (rule:∀(i j:Int)(t u:Tok)(s:Shared)(Q:Value->Shared->Prop)(E:Value->Shared->Prop),Q (.int (g i j) s.toks) {s with toks:=s.toks+1}->wpAny (model X.prog X.w) X.A (f (.int i t) (.int j u)) Q E s):
  tQ X f (DY fun i j=>.int (g i j)):=by
 intro pins s σ H x y v u Q I rx ry h
 obtain⟨i,j,rfl,rfl,q⟩:=h
 obtain⟨t,rfl⟩:=rx
 obtain⟨t',rfl⟩:=ry
 exact rule i j t t' s _ _ ⟨.int (g i j),H,I.tok _,⟨_,rfl⟩,q⟩
theorem QH{f:Value->Value->Sem Value}{g:Int->Int->Bool}
  (rule:∀(i j:Int)(t u:Tok)(s:Shared)(Q:Value->Shared->Prop)(E:Value->Shared->Prop),Q (.bool (g i j)) s->wpAny (model X.prog X.w) X.A (f (.int i t) (.int j u)) Q E s):
  tQ X f (DY fun i j=>.bl (g i j)):=by
 intro pins s σ H x y v u Q I rx ry h
 obtain⟨i,j,rfl,rfl,q⟩:=h
 obtain⟨t,rfl⟩:=rx
 obtain⟨t',rfl⟩:=ry
 exact rule i j t t' s _ _ ⟨.bl (g i j),H,I,rfl,q⟩
def U5(i j:Int):Prop:=0<j/\j<1073741824
def Ga(i j:Int):Prop:=0<=j/\j<=1000000/\i.natAbs<2^64
def LR(i j:Int):Prop:=(-(2^64)<i/\i<2^64)\/(-(2^64)<j/\j<2^64)
theorem LR.ok {i j:Int}(h:LR i j):IntMulOk i j:=by
 rcases h with⟨h1,h2⟩|⟨h1,h2⟩
 ·exact .of_left (intBits_le_64 h1 h2)
 ·exact .of_right (intBits_le_64 h1 h2)
theorem gY:tQ X (binaryOp .Add) (DY fun i j=>.int (i+j)):=QG fun _ _ _ _ _ _ _ q=>add_int q
theorem bz:tQ X (binaryOp .Sub) (DY fun i j=>.int (i-j)):=QG fun _ _ _ _ _ _ _ q=>sub_int q
theorem CF:tQ X (binaryOp .Mult) (rI LR fun i j=>.int (i*j)):=U4 fun _ _ _ _ _ _ _ hc q=>mul_int q hc.ok
theorem rA:tQ X (binaryOp .FloorDiv) (rI U5 fun i j=>.int (i/j)):=U4 fun i j _ _ _ _ _ hc q=>by
 have h1:(0:Int)<j:=hc.1
 have h2:j<1073741824:=hc.2
 exact floordiv_int (by omega) (by rw[Int.fdiv_eq_ediv_of_nonneg i (by omega)];exact q) (.inl (PyProof.noPylong_small (by omega)))
theorem jB:tQ X (binaryOp .Mod) (rI (fun _ j=>0<j) fun i j=>.int (i%j)):=U4 fun i j _ _ _ _ _ hc q=>by
 have h1:(0:Int)<j:=hc
 exact mod_int' (by omega) (by rw[Int.fmod_eq_emod_of_nonneg i (by omega)];exact q)
theorem QI:tQ X (binaryOp .Pow) (rI Ga fun i j=>.int (i^j.toNat)):=U4 fun _ _ _ _ _ _ _ hc q=>pow_int_small hc.1 hc.2.1 hc.2.2 q
theorem QJ:tQ X (binaryOp .LShift) (rI Ga fun i j=>.int (i*2^j.toNat)):=U4 fun _ _ _ _ _ _ _ hc q=>lshift_int_small hc.1 hc.2.1 hc.2.2 q
theorem HP:tQ X (binaryOp .BitAnd) (DY fun i j=>.int (Builtin.bitAnd i j)):=QG fun _ _ _ _ _ _ _ q=>and_int q
theorem unI{f:Value->Sem Value}{g:Int->Int}
  (rule:∀(i:Int)(t:Tok)(s:Shared)(Q:Value->Shared->Prop)(E:Value->Shared->Prop),Q (.int (g i) s.toks) {s with toks:=s.toks+1}->wpAny (model X.prog X.w) X.A (f (.int i t)) Q E s):
  U1 X f (rU fun i=>.int (g i)):=by
 intro pins s σ H x v Q I rx h
 obtain⟨i,rfl,q⟩:=h
 obtain⟨t,rfl⟩:=rx
 exact rule i t s _ _ ⟨.int (g i),H,I.tok _,⟨_,rfl⟩,q⟩
theorem jC:U1 X (unaryOp .USub) (rU fun i=>.int (-i)):=unI fun _ _ _ _ _ q=>neg_int q
theorem HQ:U1 X (unaryOp .Invert) (rU fun i=>.int (Builtin.bitNot i)):=unI fun _ _ _ _ _ q=>invert_int q
end
def HR:V->V->Bool
 |.non,.non=>true|.non,.int _=>true|.int _,.non=>true|.non,.bl _=>true|.bl _,.non=>true|.non,.str _=>true|.str _,.non=>true
 |.int _,.int _=>true|.bl _,.bl _=>true|.str _,.str _=>true|.Hf _,.Hf _=>true
 |.int _,.str _=>true|.str _,.int _=>true|.bl _,.str _=>true|.str _,.bl _=>true
 |_,_=>false
def rEq:R2:=fun x y H Q=>HR x y=true/\Q (.bl (decide (x=y))) H
theorem LS{i j:Int}:decide (V.int i=V.int j)=(i==j):=by
 rw[Bool.eq_iff_iff]
 simp
theorem QK{i j:Bool}:decide (V.bl i=V.bl j)=(i==j):=by
 rw[Bool.eq_iff_iff]
 simp
theorem LU{i j:Str}:decide (V.str i=V.str j)=(i==j):=by
 rw[Bool.eq_iff_iff]
 simp
theorem LV{i j:Array UInt8}:decide (V.Hf i=V.Hf j)=(i.toList==j.toList):=by
 rw[Bool.eq_iff_iff]
 cases i
 cases j
 simp
section
variable{X:Cx}{a b c:Expr}{ta tb tc:TE}{pos:Pos}
theorem eQ{pins:List (Addr×Obj)}{σ:St}{H:Hp}{s:Shared}{Q:VK}{k k':Bool}(I:Inv X pins σ H s)(q:Q (.bl k) H)(e:k=k'):EP X pins σ Q (.bool k') s:=by
 subst e
 exact⟨.bl k,H,I,rfl,q⟩
theorem HS:tQ X (compareOp .Eq) rEq:=by
 intro pins s σ H x y v u Q I rx ry h
 obtain⟨hs,q⟩:=h
 cases x with
 |non=>
  cases rx
  cases y with
  |non=>cases ry;exact PySem.EqNone.eq_none_none (eQ I q (by simp))
  |bl j=>cases ry;exact PySem.EqNone.eq_none_bool (eQ I q (by simp))
  |int j=>obtain⟨t',rfl⟩:=ry;exact PySem.EqNone.eq_none_int (eQ I q (by simp))
  |str j=>obtain⟨t',rfl⟩:=ry;exact PySem.EqNone.eq_none_str (eQ I q (by simp))
  |_=>exact absurd (show false=true from hs) Bool.false_ne_true
 |bl i=>
  cases rx
  cases y with
  |non=>cases ry;exact PySem.EqNone.eq_bool_none (eQ I q (by simp))
  |bl j=>cases ry;exact eq_bool (eQ I q QK)
  |str j=>obtain⟨t',rfl⟩:=ry;exact PySem.EqMixed.eq_bool_str (eQ I q (by simp))
  |_=>exact absurd (show false=true from hs) Bool.false_ne_true
 |int i=>
  obtain⟨t,rfl⟩:=rx
  cases y with
  |non=>cases ry;exact PySem.EqNone.eq_int_none (eQ I q (by simp))
  |int j=>obtain⟨t',rfl⟩:=ry;exact eq_int (eQ I q LS)
  |str j=>obtain⟨t',rfl⟩:=ry;exact PySem.EqMixed.eq_int_str (eQ I q (by simp))
  |_=>exact absurd (show false=true from hs) Bool.false_ne_true
 |str i=>
  obtain⟨t,rfl⟩:=rx
  cases y with
  |non=>cases ry;exact PySem.EqNone.eq_str_none (eQ I q (by simp))
  |bl j=>cases ry;exact PySem.EqMixed.eq_str_bool (eQ I q (by simp))
  |int j=>obtain⟨t',rfl⟩:=ry;exact PySem.EqMixed.eq_str_int (eQ I q (by simp))
  |str j=>obtain⟨t',rfl⟩:=ry;exact eq_str (eQ I q LU)
  |_=>exact absurd (show false=true from hs) Bool.false_ne_true
 |Hf i=>
  obtain⟨t,rfl⟩:=rx
  cases y with
  |Hf j=>obtain⟨t',rfl⟩:=ry;exact PySem.W.eq_bytes (eQ I q LV)
  |_=>exact absurd (show false=true from hs) Bool.false_ne_true
 |_=>cases y<;>exact absurd (show false=true from hs) Bool.false_ne_true
theorem qG:tQ X (compareOp .Lt) (DY fun i j=>.bl (decide (i<j))):=QH fun _ _ _ _ _ _ _ q=>lt_int q
theorem U6:tQ X (compareOp .LtE) (DY fun i j=>.bl (decide (i<=j))):=QH fun _ _ _ _ _ _ _ q=>le_int q
theorem kj:tQ X (compareOp .Gt) (DY fun i j=>.bl (decide (j<i))):=QH fun _ _ _ _ _ _ _ q=>gt_int q
theorem QL:tQ X (compareOp .Is) (fun x y H Q=>y=.non/\Q (.bl (decide (x=.non))) H):=by
 intro pins s σ H x y v u Q I rx ry h
 obtain⟨rfl,q⟩:=h
 cases ry
 refine is_none_gen (eQ I q ?_)
 cases x<;>first
  |(cases rx;rfl)
  |(obtain⟨t,rfl⟩:=rx;rfl)
theorem LW:tQ X (compareOp .IsNot) (fun x y H Q=>y=.non/\Q (.bl (!decide (x=.non))) H):=by
 intro pins s σ H x y v u Q I rx ry h
 obtain⟨rfl,q⟩:=h
 cases ry
 refine isnot_none_gen (eQ I q ?_)
 cases x<;>first
  |(cases rx;rfl)
  |(obtain⟨t,rfl⟩:=rx;rfl)
theorem aK(b:Expr){op:CmpOp}(h:op≠.In:=by decide)(h2:op≠.NotIn:=by decide):behindInMarks op b=false:=by
 have e1:(op==CmpOp.In)=false:=by cases op<;>first|rfl|exact absurd rfl h
 have e2:(op==CmpOp.NotIn)=false:=by cases op<;>first|rfl|exact absurd rfl h2
 cases b<;>simp[behindInMarks,e1,e2]
theorem LX{op:CmpOp}{r:R2}(ho:tQ X (compareOp op) r)(ha:PE X a ta)(hb:PE X b tb)(hm:behindInMarks op b=false):PE X (.Compare a [op] [b] pos) (U3 r ta tb):=by
 intro pins s σ H Q I h
 exact wpAny_Compare1 (QF ha hb I h fun v u s2 x y H2 I2 rx ry q=>ho pins s2 σ H2 x y v u Q I2 rx ry q) hm
def U7(t:TE):TT:=fun σ H Q=>t σ H fun x H'=>∃k,x=.bl k/\Q k H'
theorem jV{op:CmpOp}{r:R2}(ho:tQ X (compareOp op) r)(ha:PE X a ta)(hb:PE X b tb)(hm:behindInMarks op b=false):PT X (.Compare a [op] [b] pos) (U7 (U3 r ta tb)):=by
 intro pins s σ H Q I h
 refine wpAny_isTrue_Compare1 (cj (ha pins s σ H _ I h) fun v s1 ⟨x,H1,I1,r1,q1⟩=>cj (hb pins s1 σ H1 _ I1 q1) fun u s2 ⟨y,H2,I2,r2,q2⟩=>
  cj (ho pins s2 σ H2 x y v u _ I2 r1 r2 q2) fun c s3 ⟨z,H3,I3,r3,k,e,q3⟩=>?_) hm
 subst e
 cases r3
 exact wpAny_truthy_bool ⟨H3,I3,q3⟩
theorem qU:(sizeLine:Nat)<2^63:=by rw[sizeLine_eq];decide
theorem vals1{x:V}{us:List Value}(r:Vals [x] us):∃u,us=[u]/\RelV x u:=by
 cases r with
 |cons r1 r2=>cases r2;exact⟨_,rfl,r1⟩
theorem vals2{x y:V}{us:List Value}(r:Vals [x,y] us):∃u w',us=[u,w']/\RelV x u/\RelV y w':=by
 cases r with
 |cons r1 r2=>
  cases r2 with
  |cons r3 r4=>cases r4;exact⟨_,_,rfl,r1,r3⟩
theorem wB:qE X (.builtin "abs") (fun xs H Q=>∃i,xs=[.int i]/\Q (.int (if i<0 then-i else i)) H):=by
 intro pins s σ H xs us Q I r h
 obtain⟨i,rfl,q⟩:=h
 obtain⟨u,rfl,t,rfl⟩:=vals1 r
 exact call_abs_int fun u tk=>⟨.int (if i<0 then-i else i),H,I.tok _,⟨_,rfl⟩,q⟩
theorem Gb(hc:X.calm=true):qE X (.builtin "max") (fun xs H Q=>∃i j,xs=[.int i,.int j]/\Q (.int (if j>i then j else i)) H):=by
 intro pins s σ H xs us Q I r h
 obtain⟨i,j,rfl,q⟩:=h
 obtain⟨u,w',rfl,⟨t,rfl⟩,⟨t',rfl⟩⟩:=vals2 r
 refine max_two_ints (I.ok.hd hc) fun h' tk k=>⟨_,H,I.kept k,?_,q⟩
 by_cases hj:j>i
 ·rw[if_pos hj,if_pos hj];exact⟨_,rfl⟩
 ·rw[if_neg hj,if_neg hj];exact⟨_,rfl⟩
def U8(K:PySem.W.Frag)(x:V)(H:Hp)(n:Nat):Prop:=
 match x with
 |.str y=>y.length<=sizeLine/\n=y.length
 |.Hf y=>y.size<=sizeLine/\n=y.size
 |.ref p=>(∃xs,ck K H p xs/\n=xs.length)\/∃xs,AF K H p xs/\n=xs.length
 |_=>False
theorem cJ:qE X (.builtin "len") (fun xs H Q=>∃x n,xs=[x]/\U8 X.K x H n/\Q (.int n) H):=by
 intro pins s σ H xs us Q I r h
 obtain⟨x,n,rfl,e,q⟩:=h
 obtain⟨u,rfl,rx⟩:=vals1 r
 have hl:=qU
 have hs:sizeLine=16777216:=sizeLine_eq
 cases x with
 |str y=>
  obtain⟨t,rfl⟩:=rx
  obtain⟨hy,e'⟩:y.length<=sizeLine/\n=y.length:=e
  subst e'
  exact len_str (by omega) ⟨.int _,H,I.tok _,⟨_,rfl⟩,q⟩
 |Hf y=>
  obtain⟨t,rfl⟩:=rx
  obtain⟨hy,e'⟩:y.size<=sizeLine/\n=y.size:=e
  subst e'
  exact PySem.W.len_bytes (by omega) ⟨.int _,H,I.tok _,⟨_,rfl⟩,q⟩
 |ref p=>
  cases rx
  have e':(∃xs,ck X.K H p xs/\n=xs.length)\/∃xs,AF X.K H p xs/\n=xs.length:=e
  rcases e' with⟨xs,hx,e'⟩|⟨xs,hx,e'⟩
  ·subst e'
   obtain⟨its,r',pl,hz⟩:=I.list hx
   have hlen:=r'.length
   exact Calls.call_len_list pl.isList (by simp only [size_toArray];omega) ⟨.int xs.length,H,I.tok _,⟨_,by simp only [size_toArray];rw[hlen]⟩,q⟩
  ·subst e'
   obtain⟨its,r',pl,hz⟩:=I.tuple hx
   have hlen:=r'.length
   exact len_tuple pl (by simp only [size_toArray];omega) ⟨.int xs.length,H,I.tok _,⟨_,by simp only [size_toArray];rw[hlen]⟩,q⟩
 |_=>exact(show False from e).elim
end
end L2
namespace L2
open PySem PySem.Spec PyProof.Rows
structure CG(h:Heap)(x dx C:Addr)(mA:Str->Option Value):Prop where
 obj:h.get? x=some (instObj C dx)
 ns:h.Ns1 dx mA
 ne:dx≠x
theorem Gd{h:Heap}{dx:Addr}{mA:Str->Option Value}(n:h.Ns1 dx mA):∃od,h.get? dx=some od/\∀name,lookIn name od=some (mA name):=by
 obtain⟨o,es,ep,ho,hd,hk,_,hm⟩:=n
 refine⟨o,ho,fun name=>?_⟩
 have e:=hm name
 unfold nsFind findBy at e
 rw[<-Array.find?_toList]at e
 unfold lookIn
 rw[hd]
 dsimp only
 split
 ·rename_i y q
  rw[q]at e
  exact congrArg some e
 ·rename_i q
  rw[q]at e
  have a:es.toList.any (·.refKey)=false:=by
   rw[List.any_eq_false]
   intro y hy
   obtain⟨z,t,hkey⟩:=hk y (Array.mem_toList_iff.mp hy)
   simp[DictEntry.refKey,hkey]
  have a':¬es.toList.any (·.refKey)=true:=by rw[a];exact Bool.false_ne_true
  rw[if_neg a']
  exact congrArg some e
theorem CG.look {h:Heap}{x dx C:Addr}{mA:Str->Option Value}(I:CG h x dx C mA):∃od,PySem.W.InstAt h x (instObj C dx) C (some od)/\∀name,lookIn name od=some (mA name):=
 let⟨od,ho,hl⟩:=Gd I.ns
 ⟨od,⟨I.obj,rfl,rfl,ho⟩,hl⟩
section
variable{prog:Program}{w:World}{A:Around}{E:Value->Shared->Prop}{s:Shared}{K:PySem.W.Frag}{x dx C f:Addr}{mA:Str->Option Value}{name:Str}{v:Value}
theorem get_map{expr:Bool}{Q:Value->Shared->Prop}(X:K.In s.heap)(I:CG s.heap x dx C mA)(hg:plainGet K C name=true)(hh:hasDictIn K C=true)
  (ha:findIn K (.ref C) name=some none)(hv:mA name=some v)(hv':handedIn v=true)(h:Q v {s with toks:=s.toks+1}):
  wpAny (model prog w) A (getAttr (.ref x) name expr) Q E s:=by
 obtain⟨od,J,hl⟩:=I.look
 exact PySem.W.get_value X J (plainGet_of hg).1 (PySem.W.findObj_own hh ha rfl (by rw[hl,hv])) hv' h
theorem HU{pl:Sem Bool}{Q:Value×List Value->Shared->Prop}(X:K.In s.heap)(I:CG s.heap x dx C mA)(hg:plainGet K C name=true)
  (hf:findIn K (.ref C) name=some (some (.ref f)))(ht:isFn K (.ref f)=true)(hv:mA name=none)(h:Q (.ref f,[.ref x]) s):
  wpAny (model prog w) A (getMethod (.ref x) name pl) Q E s:=by
 obtain⟨od,J,hl⟩:=I.look
 exact PySem.W.method_fn X J (plainGet_of hg).1 (plainGet_of hg).2 hf (beq_iff_eq.mp ht) (by show(lookIn name od).map (·.isSome)=some false;rw[hl,hv];rfl) h
theorem LY{ns:List Str}{Q:Unit->Shared->Prop}(X:K.In s.heap)(I:CG s.heap x dx C mA)
  (hs:findIn K (.ref C) "__setattr__"=some (some (.builtin "object.__setattr__")))(hp:plainOver K C=true)(ht:takerIn K C name=some none)(hh:hasDictIn K C=true)
  (hw:PySem.Within mA ns)(hsz:ns.length<=sizeLine)
  (h:∀h',CG h' x dx C (fun y=>if y=name then some v else mA y)->Heap.SameBut dx s.heap h'->Q () {s with heap:=h',toks:=s.toks+2}):
  wpAny (model prog w) A (setAttr (.ref x) name v) Q E s:=by
 obtain⟨od,J,hl⟩:=I.look
 refine PySem.W.set_plain X J hs (PySem.W.osa_open (s:={s with toks:=s.toks+1}) (r:=none) X J hp ht fun b=>?_)
 obtain⟨cd,hc,LJ⟩:=PySem.W.any_some hh
 have hx:s.heap.get? x=some ⟨.ref C,some dx,.plain,#[]⟩:=I.obj
 refine wpAny_bind (wpAny_pure (wpAny_bind (wpAny_bind (wpAny_loadPart hx (wpAny_bind (Looks.here (s:={s with toks:=s.toks+1}) (PySem.W.looks_clsIn X hc) ?_))))))
 rw[LJ]
 refine wpAny_pure (a:=some dx) (wpAny_bind (wpAny_pure (wpAny_bind ?_)))
 refine wpAny_nsSet1 (s:={s with toks:=s.toks+1}) I.ns fun h' hn2 hs2=>?_
 obtain⟨oD,esD,epD,hoD,hdD,hcD⟩:=hn2.count (PySem.Within.cons name v hw)
 refine wpAny_bind (wpAny_lookBehind hoD (by rw[hdD];exact pastItsLine_dict (le_trans hcD (by rw[length_cons];omega))) ?_)
 exact wpAny_pure (h _ ⟨(hs2.2 _ (Ne.symm I.ne)).trans I.obj,hn2,I.ne⟩ hs2)
theorem HV{R:Result->Shared->Prop}{vs:List Value}{kw:List (Str×Value)}(X:K.In s.heap)(hm:makesIn K C=true)
  (hi:findIn K (.ref C) "__init__"=some (some (.ref f)))(hf:typeIn K (.ref f)=some (.type "function"))
  (h:codeAny (model prog w) (A.under (.builtin "type.__call__" ⟨.ref C::vs,kw⟩)) (.call (.ref f) ⟨.ref (s.heap.objs.size+1)::vs,kw⟩) (PySem.W.InitBack (s.heap.objs.size+1) R)
   {s with heap:=(s.heap.push emptyDict).push (instObj C s.heap.objs.size)}):
  codeAny (model prog w) A (.call (.ref C) ⟨vs,kw⟩) R s:=by
 obtain⟨hh,g,d,t,os⟩:=s
 exact PySem.W.make_core (PySem.W.makes_of X hm) (PySem.W.looks_findIn X hi) (fun self=>PySem.W.bind_fn X self hf) (.inl rfl) h
end
def km(f:Str)(v:V):List (Str×V)->List (Str×V)
 |[]=>[(f,v)]
 |(g,x)::r=>if g=f then(g,v)::r else(g,x)::km f v r
theorem uS(f g:Str)(v:V):∀fs:List (Str×V),(km f v fs).lookup g=if g=f then some v else fs.lookup g
 |[]=>by
  show List.lookup g [(f,v)]=_
  by_cases h:g=f
  ·have hb:(g==f)=true:=beq_iff_eq.mpr h
   simp only [List.lookup,hb,if_pos h]
  ·have hb:(g==f)=false:=beq_eq_false_iff_ne.mpr h
   simp only [List.lookup,hb,if_neg h]
 |(k,x)::r=>by
  have ih:=uS f g v r
  rw[show km f v ((k,x)::r)=(if k=f then(k,v)::r else(k,x)::km f v r)from rfl]
  by_cases hk:k=f
  ·rw[if_pos hk]
   by_cases h:g=k
   ·have hb:(g==k)=true:=beq_iff_eq.mpr h
    simp only [List.lookup,hb,if_pos (h.trans hk)]
   ·have hb:(g==k)=false:=beq_eq_false_iff_ne.mpr h
    simp only [List.lookup,hb,if_neg (fun e:g=f=>h (e.trans hk.symm))]
  ·rw[if_neg hk]
   by_cases h:g=k
   ·have hb:(g==k)=true:=beq_iff_eq.mpr h
    simp only [List.lookup,hb,if_neg (fun e:g=f=>hk (h.symm.trans e))]
   ·have hb:(g==k)=false:=beq_eq_false_iff_ne.mpr h
    simp only [List.lookup,hb]
    exact ih
theorem tR(f:Str)(v:V):∀fs:List (Str×V),f∈(km f v fs).map (·.1)/\∀g,g∈fs.map (·.1)->g∈(km f v fs).map (·.1)
 |[]=>⟨by simp[km],fun g h=>by simp at h⟩
 |(k,x)::r=>by
  obtain⟨i1,i2⟩:=tR f v r
  rw[show km f v ((k,x)::r)=(if k=f then(k,v)::r else(k,x)::km f v r)from rfl]
  by_cases hk:k=f
  ·rw[if_pos hk]
   subst hk
   exact⟨by simp,fun g h=>by simpa using h⟩
  ·rw[if_neg hk]
   refine⟨?_,fun g h=>?_⟩
   ·rw[map_cons]
    exact mem_cons_of_mem _ i1
   ·rw[map_cons]at h⊢
    rcases mem_cons.mp h with e|e
    ·exact mem_cons.mpr (.inl e)
    ·exact mem_cons_of_mem _ (i2 g e)
theorem uT(f:Str)(v:V):∀fs:List (Str×V),(km f v fs).length<=fs.length+1
 |[]=>by simp[km]
 |(k,x)::r=>by
  have ih:=uT f v r
  rw[show km f v ((k,x)::r)=(if k=f then(k,v)::r else(k,x)::km f v r)from rfl]
  by_cases hk:k=f
  ·rw[if_pos hk,length_cons,length_cons];omega
  ·rw[if_neg hk,length_cons,length_cons];omega
theorem oO.some_of {v:V}{o:Option Value}(r:oO (some v) o):∃u,o=some u/\RelV v u:=by
 cases o with
 |none=>exact(show False from r).elim
 |some u=>exact⟨u,rfl,r⟩
theorem oO.none_of {o:Option Value}(r:oO none o):o=none:=by
 cases o with
 |none=>rfl
 |some u=>exact(show False from r).elim
theorem Ge{v:V}{u:Value}(r:RelV v u):handedIn u=true:=by
 cases v with
 |non=>cases (show u=Value.none from r);rfl
 |bl b=>cases (show u=Value.bool b from r);rfl
 |int i=>obtain⟨t,e⟩:=(show∃t,u=Value.int i t from r);cases e;rfl
 |str x=>obtain⟨t,e⟩:=(show∃t,u=Value.str x t from r);cases e;rfl
 |Hf b=>obtain⟨t,e⟩:=(show∃t,u=Value.bytes b t from r);cases e;rfl
 |Qm b=>obtain⟨t,e⟩:=(show∃t,u=Value.float b t from r);cases e;rfl
 |ref a=>cases (show u=Value.ref a from r);rfl
 |ty n=>cases (show u=Value.type n from r);rfl
section
variable{P:Program}{w:World}{H H':Hp}{h h':Heap}{a C dx:Addr}{fs fs':List (Str×V)}
theorem vO(hok:qy P w H h)(e:H a=some (.ins C dx fs)):∃mA,CG h a dx C mA/\(∀f,oO (fs.lookup f) (mA f))/\PySem.Within mA (fs.map (·.1))/\fs.length<=1000/\H dx=some (.own a):=by
 obtain⟨d,z,ne,ob,mA,n,r,q⟩:=(show cT P w H h a (.ins C dx fs)from hok a _ e)
 exact⟨mA,⟨ob,n,ne⟩,r,q,z,d⟩
end
structure HW(K:PySem.W.Frag)(C:Addr):Prop where
 pg:plainGet K C Str.empty=true
 hd:hasDictIn K C=true
 po:plainOver K C=true
 sa:findIn K (.ref C) "__setattr__"=some (some (.builtin "object.__setattr__"))
theorem HW.get {K:PySem.W.Frag}{C:Addr}(c:HW K C)(f:Str):plainGet K C f=true:=c.pg
def fK(K:PySem.W.Frag)(C:Addr)(f:Str):Prop:=findIn K (.ref C) f=some none
theorem fK.U9 {K:PySem.W.Frag}{C:Addr}{f:Str}(n:fK K C f):takerIn K C f=some none:=by
 unfold takerIn
 rw[show findIn K (.ref C) f=some none from n]
 rfl
structure Meth(K:PySem.W.Frag)(C:Addr)(m:Str)(f:Addr):Prop where
 at_:findIn K (.ref C) m=some (some (.ref f))
 fn:isFn K (.ref f)=true
 kp:keepIn K (.ref f)=true
section
variable{X:Cx}{pins:List (Addr×Obj)}{σ:St}{H:Hp}{s:Shared}{a C dx:Addr}{fs:List (Str×V)}{f:Str}{v:V}{A:Around}{E:Value->Shared->Prop}
theorem CH{b:Bool}{Q:Value->Shared->Prop}(I:Inv X pins σ H s)(e:H a=some (.ins C dx fs))(c:HW X.K C)(n:fK X.K C f)(l:fs.lookup f=some v)
  (h:∀u s',Inv X pins σ H s'->RelV v u->Q u s'):wpAny (model X.prog X.w) A (getAttr (.ref a) f b) Q E s:=by
 obtain⟨mA,O,r,_,_,_⟩:=vO I.hok e
 obtain⟨u,hu,ru⟩:=oO.some_of (v:=v) (o:=mA f) (by rw[<-l];exact r f)
 exact get_map I.tK O (c.get f) c.hd n hu (Ge ru) (h u _ (I.tok _) ru)
theorem wC{m:Str}{g:Addr}{pl:Sem Bool}{Q:Value×List Value->Shared->Prop}(I:Inv X pins σ H s)(e:H a=some (.ins C dx fs))(c:HW X.K C)(k:Meth X.K C m g)(l:fs.lookup m=none)
  (h:Q (.ref g,[.ref a]) s):wpAny (model X.prog X.w) A (getMethod (.ref a) m pl) Q E s:=by
 obtain⟨mA,O,r,_,_,_⟩:=vO I.hok e
 have hn:mA m=none:=oO.none_of (by rw[<-l];exact r m)
 exact HU I.tK O (c.get m) k.at_ k.fn hn h
theorem CI{y:V}{u:Value}{Q:Unit->Shared->Prop}(I:Inv X pins σ H s)(e:H a=some (.ins C dx fs))(c:HW X.K C)(n:fK X.K C f)(hl:fs.length<1000)(ry:RelV y u)
  (h:∀s',Inv X pins σ (upd H a (.ins C dx (km f y fs))) s'->Q () s'):wpAny (model X.prog X.w) A (setAttr (.ref a) f u) Q E s:=by
 obtain⟨mA,O,r,wi,_,ho⟩:=vO I.hok e
 have hz:(fs.map (·.1)).length<=sizeLine:=by rw[length_map,sizeLine_eq];omega
 refine LY I.tK O c.sa c.po n.U9 c.hd wi hz fun h' O' sb=>h _ ?_
 have hd:∃o,h'.get? dx=some o:=let⟨o,_,_,e',_⟩:=O'.ns;⟨o,e'⟩
 refine I.write (x:=a) (e:=dx) (by rw[e];exact True.intro) (.inr ho) (fun b q hb z=>(sb.2 b hb).trans z) hd ?_
 refine⟨by rw[ah O.ne];exact ho,?_,O.ne,O'.obj,_,O'.ns,fun g=>?_,fun g hg=>?_⟩
 ·have:=uT f y fs;omega
 ·show oO ((km f y fs).lookup g) (if g=f then some u else mA g)
  rw[uS]
  by_cases q:g=f
  ·rw[if_pos q,if_pos q];exact ry
  ·rw[if_neg q,if_neg q];exact r g
 ·by_cases q:g=f
  ·rw[q];exact(tR f y fs).1
  ·refine(tR f y fs).2 g (wi g fun z=>hg ?_)
   show(if g=f then some u else mA g)=none
   rw[if_neg q];exact z
theorem Inv.made (I:Inv X pins σ H s):Inv X pins σ (upd (upd H s.heap.objs.size (.own (s.heap.objs.size+1))) (s.heap.objs.size+1) (.ins C s.heap.objs.size []))
  {s with heap:=(s.heap.push emptyDict).push (instObj C s.heap.objs.size)}:=by
 have e1:(s.heap.push emptyDict).get? s.heap.objs.size=some emptyDict:=Heap.get?_push_size s.heap rfl
 have e2:((s.heap.push emptyDict).push (instObj C s.heap.objs.size)).get? (s.heap.objs.size+1)=some (instObj C s.heap.objs.size):=by
  have:=Heap.get?_push_size (s.heap.push emptyDict) (o:=instObj C s.heap.objs.size) rfl
  rwa [Heap.size_push]at this
 have e3:(s.heap.push emptyDict).Ns s.heap.objs.size (fun _=>none):=⟨emptyDict,#[],_,e1,rfl,(fun e he=>absurd he (by simp)),fun _=>rfl⟩
 have I1:=I.laid (a:=s.heap.objs.size) (o:=.own (s.heap.objs.size+1)) (h':=s.heap.push emptyDict) (t':=s.toks) (fun b u q=>Heap.get?_push_of_some _ q) (Nat.le_refl _) ⟨_,e1⟩
 refine I1.laid (a:=s.heap.objs.size+1) (o:=.ins C s.heap.objs.size []) (t':=s.toks) (fun b u q=>Heap.get?_push_of_some _ q) (le_of_eq (Heap.size_push _ _)) ?_
 have ne:s.heap.objs.size≠s.heap.objs.size+1:=ne_of_lt (lt_succ_self _)
 refine⟨by rw[ah ne,ar],zero_le _,ne,e2,fun _=>none,(Heap.Ns1.of_empty e3).at fun o q=>Heap.get?_push_of_some _ q,fun _=>True.intro,fun y hy=>absurd rfl hy⟩
theorem LZ{prog:Program}{w:World}{env:Env}{e:Expr}{f:Str}{pos:Pos}{s:Shared}{Q:Value->Shared->Prop}(hb:attributeBase e f env (eval e env)=eval e env)
  (h:wpAny (model prog w) A (eval e env) (fun o s₁=>wpAny (model prog w) A (getAttr o f true) Q E s₁) E s):wpAny (model prog w) A (eval (.Attribute e f pos) env) Q E s:=
 Attribute_any_ h (by rw[arm_eval_Attribute,hb])
end
def Va(K:PySem.W.Frag)(ta:TE)(f:Str):TE:=fun σ H Q=>ta σ H fun x H1=>∃a C dx fs v,x=.ref a/\H1 a=some (.ins C dx fs)/\HW K C/\fK K C f/\fs.lookup f=some v/\Q v H1
def Y2(K:PySem.W.Frag)(ta tv:TE)(f:Str):TS:=fun D σ H=>tv σ H fun y H1=>ta σ H1 fun x H2=>∃a C dx fs,x=.ref a/\H2 a=some (.ins C dx fs)/\HW K C/\fK K C f/\fs.length<1000/\
 D.nx σ (upd H2 a (.ins C dx (km f y fs)))
section
variable{X:Cx}{o e value:Expr}{f:Str}{pos pos' Y3:Pos}{ta tv:TE}
theorem bA(he:PE X e ta)(hb:attributeBase e f X.env (eval e X.env)=eval e X.env):PE X (.Attribute e f pos) (Va X.K ta f):=by
 intro pins s σ H Q I h
 refine LZ hb (cj (he pins s σ H _ I h) fun u s1 ⟨x,H1,I1,rx,a,C,dx,fs,v,ex,ea,c,n,l,q⟩=>?_)
 subst ex
 obtain rfl:u=Value.ref a:=rx
 exact CH I1 ea c n l fun u' s2 I2 ru=>⟨v,H1,I2,ru,q⟩
theorem lX(ha:PE X o ta)(hv:PE X value tv)(hs:swapsWith value (some (.Attribute o f pos')) pos.line X.env=pure false):PS X (.Assign [.Attribute o f pos'] value pos) (Y2 X.K ta tv f):=by
 intro pins s σ H D I h
 refine plainObj_wpAny_Assign_Attribute (cj (hv pins s σ H _ I h) fun u s1 ⟨y,H1,I1,ry,q⟩=>cj (ha pins s1 σ H1 _ I1 q) fun ov s2 ⟨x,H2,I2,rx,a,C,dx,fs,ex,ea,c,n,l,q2⟩=>?_) hs
 subst ex
 obtain rfl:ov=Value.ref a:=rx
 exact CI I2 ea c n l ry fun s3 I3=>⟨σ,_,I3,q2⟩
end
section
variable{X:Cx}{pins:List (Addr×Obj)}{σ:St}{H:Hp}{s:Shared}{A:Around}{E:Value->Shared->Prop}{Q:Value->Shared->Prop}{c:Value}{b:Bool}
inductive vo (K:PySem.W.Frag) (H:Hp):V->Value->Prop where
 |non:vo K H .non (.type "NoneType")
 |bl (x:Bool):vo K H (.bl x) (.type "bool")
 |int (i:Int):vo K H (.int i) (.type "int")
 |str (x:Str):vo K H (.str x) (.type "str")
 |Qm (x:UInt64):vo K H (.Qm x) (.type "float")
 |lst {a:Addr} {xs:List V} (e:H a=some (.lst xs)):vo K H (.ref a) (.type "list")
 |xZ {a:Addr} {o:Obj} {xs:List V} (e:H a=some (.xZ o (.lst xs))):vo K H (.ref a) (.type "list")
 |tup {a:Addr} {xs:List V} (e:H a=some (.tup xs)):vo K H (.ref a) (.type "tuple")
 |dK {a:Addr} {kvs:List (Key×V)} (e:H a=some (.dK kvs)):vo K H (.ref a) (.type "dict")
 |dT {a:Addr} {kvs:List (List Key×V)} (e:H a=some (.dT kvs)):vo K H (.ref a) (.type "dict")
 |ins {a C dx:Addr} {fs:List (Str×V)} (e:H a=some (.ins C dx fs)) (cl:HW K C) (ha:findIn K (.ref C) "__class__"=some (some (.builtin "object.__class__")))
   (hn:PySem.W.specialIn K (.builtin "object.__class__") "__get__"=some (some (.builtin "getset_descriptor.__get__"))) (htk:PySem.W.takesIn K (.builtin "object.__class__")=some true)
   (hm:mroIn K C (.type "object")=some true):vo K H (.ref a) (.ref C)
theorem qe{x:V}{u t:Value}(I:Inv X pins σ H s)(rx:RelV x u)(ty:vo X.K H x t)(e:kitOne X.K t c=some b)(h:∀tk,Q (.bool b) {s with toks:=tk}):
  wpAny (model X.prog X.w) A (call (.builtin "isinstance") [u,c]) Q E s:=by
 cases ty with
 |non=>cases (show u=Value.none from rx);exact kia_one PySem.W.kitx_none I.tK True.intro e (fun z=>nomatch z) h
 |bl y=>cases (show u=Value.bool y from rx);exact kia_one PySem.W.kitx_bool I.tK True.intro e (fun z=>nomatch z) h
 |int i=>obtain⟨t,q⟩:=(show∃t,u=Value.int i t from rx);cases q;exact kia_one PySem.W.kitx_int I.tK True.intro e (fun z=>nomatch z) h
 |str y=>obtain⟨t,q⟩:=(show∃t,u=Value.str y t from rx);cases q;exact kia_one PySem.W.kitx_str I.tK True.intro e (fun z=>nomatch z) h
 |Qm y=>obtain⟨t,q⟩:=(show∃t,u=Value.float y t from rx);cases q;exact kia_one PySem.W.kitx_float I.tK True.intro e (fun z=>nomatch z) h
 | @lst a xs ea=>
  cases (show u=Value.ref a from rx)
  obtain⟨_,_,n,_,h1⟩:=(show cT X.prog X.w H s.heap a (.lst xs)from I.hok a _ ea)
  exact kia_one kitx_list I.tK ⟨_,h1,rfl⟩ e (fun z=>nomatch z) h
 | @xZ a ob xs ea=>
  cases (show u=Value.ref a from rx)
  obtain⟨_,_,_,n,_,h1⟩:=(show cT X.prog X.w H s.heap a (.xZ ob (.lst xs))from I.hok a _ ea)
  exact kia_one kitx_list I.tK ⟨_,h1,rfl⟩ e (fun z=>nomatch z) h
 | @tup a xs ea=>
  cases (show u=Value.ref a from rx)
  obtain⟨_,_,_,p⟩:=(show cT X.prog X.w H s.heap a (.tup xs)from I.hok a _ ea)
  obtain⟨o,h1,h2,_⟩:=p
  exact kia_one kitx_tuple I.tK ⟨o,h1,h2⟩ e (fun z=>nomatch z) h
 | @dK a kvs ea=>
  cases (show u=Value.ref a from rx)
  obtain⟨_,_,vs,_,p⟩:=(show cT X.prog X.w H s.heap a (.dK kvs)from I.hok a _ ea)
  obtain⟨o,es,ep,h1,h2,_⟩:=p
  exact kia_one kitx_dict I.tK ⟨o,h1,h2.1⟩ e (fun z=>nomatch z) h
 | @dT a kvs ea=>
  cases (show u=Value.ref a from rx)
  obtain⟨_,_,xs,_,o,es,ep,h1,h2,_⟩:=(show cT X.prog X.w H s.heap a (.dT kvs)from I.hok a _ ea)
  exact kia_one kitx_dict I.tK ⟨o,h1,h2.1⟩ e (fun z=>nomatch z) h
 | @ins a C dx fs ea cl ha hn htk hm=>
  cases (show u=Value.ref a from rx)
  obtain⟨mA,O,_⟩:=vO I.hok ea
  obtain⟨od,J,_⟩:=O.look
  exact kia_one (PySem.W.kitx_own (cl.get _) cl.hd ha hn htk hm) I.tK J e (fun z=>nomatch z) h
end
end L2
namespace L2
open PySem PySem.Spec PyProof.Rows
structure bu(k:Nat)(A:Around):Prop where
 hd:A.handled=none
 dp:A.depth+3*k+5<recursionLimit
 un:A.units+16*k+200<cLine
theorem bu.mono {j k:Nat}{A:Around}(r:bu k A)(h:j<=k):bu j A:=⟨r.hd,by have:=r.dp;omega,by have:=r.un;omega⟩
theorem bu.deeper {k:Nat}{A:Around}(r:bu (k+1) A)(env:Env):bu k (A.deeper env):=
 ⟨r.hd,by have:=r.dp;show A.depth+1+3*k+5<_;omega,by have:=r.un;show A.units+3+16*k+200<_;omega⟩
theorem CJ{A:Around}{C:Addr}{us:List Value}{kw:List (Str×Value)}:(A.under (.builtin "type.__call__" ⟨.ref C::us,kw⟩)).depth=A.depth+1:=by
 first|rfl|simp[Around.under,Code.weight,Code.isCreation,Code.isGuard,Code.isCaller,Code.frames,Code.isFrame,guardIds]
theorem CK{A:Around}{C:Addr}{us:List Value}{kw:List (Str×Value)}:(A.under (.builtin "type.__call__" ⟨.ref C::us,kw⟩)).units=A.units+1:=by
 first|rfl|simp[Around.under,Code.cUnits,Code.frames,Code.isFrame]
theorem bu.make {k:Nat}{A:Around}(r:bu (k+1) A)(C:Addr)(us:List Value)(kw:List (Str×Value)):bu k (A.under (.builtin "type.__call__" ⟨.ref C::us,kw⟩)):=
 ⟨r.hd,by have:=r.dp;rw[CJ];omega,by have:=r.un;rw[CK];omega⟩
theorem bu.depth {k:Nat}{A:Around}(r:bu k A):A.depth<recursionLimit:=by have:=r.dp;omega
theorem bu.units {k:Nat}{A:Around}(r:bu k A):A.units+64<cLine:=by have:=r.un;omega
def QM:TA:=fun _ H Q=>Q [] H
def N5(ta:TE)(tr:TA):TA:=fun σ H Q=>ta σ H fun x H1=>tr σ H1 fun xs H2=>Q (x::xs) H2
section
variable{X:Cx}{e:Expr}{es:List Expr}{te:TE}{t:TA}{pos:Pos}
theorem aJ:PA X [] QM:=fun _ _ _ _ H Q I h=>Calls.spliced_nil ⟨[],H,I,.nil,h⟩
theorem aw(ha:PE X e te)(hr:PA X es t)(hs:starEach (e::es) X.env=(false,eval e X.env)::starEach es X.env:=by rfl):PA X (e::es) (N5 te t):=by
 intro pos pins s σ H Q I h
 rw[hs]
 show wpAny _ _ (spliced ((false,eval e X.env)::backTo pos (starEach es X.env))) _ _ s
 refine Calls.spliced_cons (cj (ha pins s σ H _ I h) fun u s1 ⟨x,H1,I1,r1,q1⟩=>?_)
 exact cj (hr pos pins s1 σ H1 _ I1 q1) fun us s2 ⟨xs,H2,I2,r2,q2⟩=>⟨x::xs,H2,I2,.cons r1 r2,q2⟩
def Y4(t:TA):TE:=fun σ H Q=>t σ H fun xs H1=>xs.length<=sizeLine/\∀p,H1 p=none->Q (.ref p) (upd H1 p (.tup xs))
def Y5(t:TA):TE:=fun σ H Q=>t σ H fun xs H1=>xs.length<=sizeLine/\∀p,H1 p=none->Q (.ref p) (upd H1 p (.lst xs))
theorem tU{x1}(h:PA X es t):PE X (.Tuple es x1 pos) (Y4 t):=by
 intro pins s σ H Q I hq
 refine wpAny_Tuple_spliced (cj (h pos pins s σ H _ I hq) fun us s1 ⟨xs,H1,I1,r,z,q⟩=>⟨by rw[<-r.length];exact z,?_⟩)
 have hf:H1 s1.heap.objs.size=none:=I1.hok.fresh (Nat.le_refl _)
 refine⟨.ref s1.heap.objs.size,upd H1 s1.heap.objs.size (.tup xs),I1.laid (t':=s1.toks) (fun b u e=>Heap.get?_push_of_some _ e) (Nat.le_refl _) ?_,rfl,q _ hf⟩
 exact⟨z,us,r,⟨_,Heap.get?_push_size _ rfl,rfl,_,rfl⟩⟩
theorem tV(h:PA X es t):PE X (.List es pos) (Y5 t):=by
 intro pins s σ H Q I hq
 refine wpAny_List_spliced (cj (h pos pins s σ H _ I hq) fun us s1 ⟨xs,H1,I1,r,z,q⟩=>⟨by rw[<-r.length];exact z,?_⟩)
 have hf:H1 s1.heap.objs.size=none:=I1.hok.fresh (Nat.le_refl _)
 refine⟨.ref s1.heap.objs.size,upd H1 s1.heap.objs.size (.lst xs),I1.laid (t':=s1.toks) (fun b u e=>Heap.get?_push_of_some _ e) (Nat.le_refl _) ?_,rfl,q _ hf⟩
 exact⟨z,us,0,r,Heap.get?_push_size _ rfl⟩
end
abbrev Sp:=List V->Hp->VK->XK->Prop
abbrev Hh:=List Env->Hp->Shared->XK->Value->Shared->Prop
structure CL(P:Program)(w:World)(K:PySem.W.Frag)(mg:Str->Option Value)(base:Heap)(A:Around)(outer:List Env)(s:Shared)(H:Hp):Prop where
 frames:A.frames=some outer
 mod:Mod K mg base
 bs:∀b o,base.get? b=some o->s.heap.get? b=some o/\H b=none
 Lj:base.objs.size<=s.heap.objs.size
 tJ:s.heap.FunFrames base outer
 NZ:∀b∈Cp outer,H b=none
 hok:qy P w H s.heap
 bare:AllBare s.gens
def CE(outer:List Env)(P:Program)(w:World)(H:Hp)(s:Shared)(Q:VK)(u:Value)(s':Shared):Prop:=
 ∃v H',s'.os=s.os/\AllBare s'.gens/\Un (Cp outer) [] H H' s.heap s'.heap/\qy P w H' s'.heap/\RelV v u/\Q v H'
def CR(CX:Hh)(outer:List Env)(P:Program)(w:World)(H:Hp)(s:Shared)(Q:VK)(E:XK)(r:Result)(s':Shared):Prop:=
 match r with
 |.ok (.ret u)=>CE outer P w H s Q u s'
 |.ok _=>False
 |.error e=>CX outer H s E e s'
structure cu(P:Program)(w:World)(K:PySem.W.Frag)(mg:Str->Option Value)(base:Heap)(CX:Hh)(k:Nat)(f:Addr)(fd:FuncData)(ps:List Str)(sp:Sp):Prop where
 len:∀vs H Q E,sp vs H Q E->vs.length=ps.length
 run:∀(A:Around)(outer:List Env)(s:Shared)(H:Hp)(args:Args)(us:List Value)(vs:List V)(Q:VK)(E:XK),bu k A->CL P w K mg base A outer s H->BindsTo s fd args (ps.zip us)->Vals vs us->sp vs H Q E->
  codeAny (model P w) A (.call (.ref f) args) (CR CX outer P w H s Q E) s
theorem CL.make {P:Program}{w:World}{K:PySem.W.Frag}{mg:Str->Option Value}{base:Heap}{A:Around}{outer:List Env}{s:Shared}{H:Hp}(e:CL P w K mg base A outer s H)(C:Addr)(us:List Value)(kw:List (Str×Value)):
  CL P w K mg base (A.under (.builtin "type.__call__" ⟨.ref C::us,kw⟩)) outer s H:=⟨by first|exact e.frames|(simpa[Around.under,Code.envs,Code.isFrame,pushEnvs]using e.frames),e.mod,e.bs,e.Lj,e.tJ,e.NZ,e.hok,e.bare⟩
section
variable{X:Cx}{pins:List (Addr×Obj)}{σ:St}{H:Hp}{s s':Shared}
theorem Inv.Vb (I:Inv X pins σ H s):CL X.prog X.w X.K X.mg X.base X.A X.stack s H:=
 ⟨I.ok.frames,I.ok.mod,I.bs,le_trans I.ok.Lj I.sz,I.stack,I.DV,I.hok,I.bare⟩
theorem Inv.after {Q:VK}{u:Value}(I:Inv X pins σ H s)(h:CE X.stack X.prog X.w H s Q u s'):EP X pins σ Q u s':=by
 obtain⟨v,H',os,bare,un,hok,r,q⟩:=h
 obtain⟨hh,g,d,t,fM⟩:=s'
 obtain rfl:fM=s.os:=os
 exact⟨v,H',I.call (h':=hh) (g':=g) (d':=d) (t':=t) (ch:=[]) un hok bare (fun b z=>absurd z (by simp)),r,q⟩
end
def Vc(sp:Sp)(x6:List V)(E:XK)(t:TA):TE:=fun σ H Q=>t σ H fun vs H1=>sp (vs++x6) H1 Q E
def N6(C:Addr)(m:Str)(sp:Sp)(x6:List V)(E:XK)(ta:TE)(t:TA):TE:=fun σ H Q=>ta σ H fun x H1=>∃a dx fs,x=.ref a/\H1 a=some (.ins C dx fs)/\fs.lookup m=none/\
 t σ H1 fun vs H2=>sp (x::(vs++x6)) H2 Q E
def Vd(C:Addr)(sp:Sp)(x6:List V)(E:XK)(t:TA):TE:=fun σ H Q=>t σ H fun vs H1=>∀x dx,H1 x=none->H1 dx=none->dx≠x->
 sp (.ref x::(vs++x6)) (upd (upd H1 dx (.own x)) x (.ins C dx [])) (fun v H2=>v=.non/\Q (.ref x) H2) E
def Binds(K:PySem.W.Frag)(fd:FuncData)(ps:List Str)(ds:List Value):Prop:=
 ∀(s:Shared)(us:List Value),K.In s.heap->(us++ds).length=ps.length->BindsTo s fd ⟨us,[]⟩ (ps.zip (us++ds))
theorem Binds.all {K:PySem.W.Frag}{fd:FuncData}{ps:List Str}(h:∀us:List Value,us.length=ps.length->bindArgs fd ⟨us,[]⟩=pure (ps.zip us)):Binds K fd ps []:=fun s us _ hl=>by
 rw[append_nil]at hl⊢
 exact .of_eq (h us hl)
def Passes(CX:Hh)(X:Cx)(E:XK):Prop:=∀(pins:List (Addr×Obj))(σ:St)(H:Hp)(s:Shared)(e:Value)(s':Shared),Inv X pins σ H s->CX X.stack H s E e s'->X.xe e s'
section
variable{X:Cx}{CX:Hh}{k:Nat}{f C:Addr}{fd:FuncData}{ps:List Str}{sp:Sp}{x6:List V}{ds:List Value}{E:XK}{x m:Str}{p pos apos:Pos}{e o:Expr}{es:List Expr}{ta:TE}{t:TA}
theorem CM{pins:List (Addr×Obj)}{σ:St}{H:Hp}{s:Shared}{Q:VK}{us:List Value}{vs:List V}(F:cu X.prog X.w X.K X.mg X.base CX k f fd ps sp)(hr:bu k X.A)(hb:Binds X.K fd ps ds)(hd:Vals x6 ds)(hx:Passes CX X E)
  (I:Inv X pins σ H s)(r:Vals vs us)(h:sp (vs++x6) H Q E):wpAny (model X.prog X.w) X.A (call (.ref f) us) (EP X pins σ Q) X.xe s:=by
 have r2:Vals (vs++x6) (us++ds):=r.append hd
 have hl:(us++ds).length=ps.length:=by rw[<-r2.length];exact F.len _ _ _ _ h
 refine wpAny_call (codeAny_mono (F.run X.A X.stack s H ⟨us,[]⟩ (us++ds) (vs++x6) Q E hr I.Vb (hb s us I.tK hl) r2 h) fun r s' hq=>?_)
 cases r with
 |error e=>exact hx pins σ H s e s' I hq
 |ok fl=>
  cases fl with
  |ret u=>exact I.after hq
  |next=>exact False.elim hq
  |brk=>exact False.elim hq
  |cont=>exact False.elim hq
theorem dX(F:cu X.prog X.w X.K X.mg X.base CX k f fd ps sp)(hr:bu k X.A)(hg:Gl X x)(hm:X.mg x=some (.ref f))(hk:keepIn X.K (.ref f)=true)(hb:Binds X.K fd ps ds)(hd:Vals x6 ds)(hx:Passes CX X E)
  (ha:PA X (e::es) t)(hdb:(x==("__debug__":Str))=false:=by decide)(he:starEach (e::es) X.env=(false,eval e X.env)::starEach es X.env:=by rfl)(hpl:(backTo pos (starEach es X.env)).any (·.1)=false:=by rfl):
  PE X (.Call (.Name x p) (e::es) [] pos) (Vc sp x6 E t):=by
 intro pins s σ H Q I h
 refine wpAny_Call_Name_kw (zh I hg hm ?_ hdb)
 refine callWith_K (h₀:=X.base) I.ok.mod.UI hk (cj (ha pos pins s σ H _ I h) fun us s1 ⟨vs,H1,I1,r,q⟩=>⟨I1.tK,?_⟩) he hpl
 exact CM F hr hb hd hx I1 r q
theorem ja{pl:Sem Bool}(he:PE X o ta)(c:HW X.K C)(hm:Meth X.K C m f)(F:cu X.prog X.w X.K X.mg X.base CX k f fd ps sp)(hr:bu k X.A)(hb:Binds X.K fd ps ds)(hd:Vals x6 ds)(hx:Passes CX X E)(ha:PA X (e::es) t)
  (hst:starEach (e::es) X.env=(false,eval e X.env)::starEach es X.env:=by rfl)(hpl:(backTo pos (starEach es X.env)).any (·.1)=false:=by rfl)
  (ht:eval (.Call (.Attribute o m apos) (e::es) [] pos) X.env=(do
   let ov<-eval o X.env
   standAt apos.atName
   let(f,first)<-holding [ov] (getMethod ov m pl)
   callWith pos f first (backTo pos (starEach (e::es) X.env)) (backToKw pos (keywordEach [] X.env))):=by rfl):
  PE X (.Call (.Attribute o m apos) (e::es) [] pos) (N6 C m sp x6 E ta t):=by
 intro pins s σ H Q I h
 refine methodCall_KW (pl:=pl) (cj (he pins s σ H _ I h) fun u s1 ⟨x,H1,I1,rx,a,dx,fs,ex,ea,l,q⟩=>?_) ht
 subst ex
 obtain rfl:u=Value.ref a:=rx
 refine wC I1 ea c hm l ?_
 refine callWith_K (first:=[.ref a]) (h₀:=X.base) I.ok.mod.UI hm.kp (cj (ha pos pins s1 σ H1 _ I1 q) fun us s2 ⟨vs,H2,I2,r,q2⟩=>⟨I2.tK,?_⟩) hst hpl
 exact CM (us:=.ref a::us) (vs:=.ref a::vs) F hr hb hd hx I2 (.cons rfl r) q2
theorem HX{pl:Sem Bool}(he:PE X o ta)(c:HW X.K C)(hm:Meth X.K C m f)(F:cu X.prog X.w X.K X.mg X.base CX k f fd ps sp)(hr:bu k X.A)(hb:Binds X.K fd ps ds)(hd:Vals x6 ds)(hx:Passes CX X E)
  (ht:eval (.Call (.Attribute o m apos) [] [] pos) X.env=(do
   let ov<-eval o X.env
   standAt apos.atName
   let(f,first)<-holding [ov] (getMethod ov m pl)
   callWith pos f first (backTo pos (starEach [] X.env)) (backToKw pos (keywordEach [] X.env))):=by rfl):
  PE X (.Call (.Attribute o m apos) [] [] pos) (N6 C m sp x6 E ta QM):=by
 intro pins s σ H Q I h
 refine methodCall_KW (pl:=pl) (cj (he pins s σ H _ I h) fun u s1 ⟨x,H1,I1,rx,a,dx,fs,ex,ea,l,q⟩=>?_) ht
 subst ex
 obtain rfl:u=Value.ref a:=rx
 refine wC I1 ea c hm l ?_
 exact PySem.W.callWith_K0 (first:=[.ref a]) I1.tK hm.kp (CM (us:=[.ref a]) (vs:=[.ref a]) F hr hb hd hx I1 (.cons rfl .nil) q)
structure Mk(K:PySem.W.Frag)(C f:Addr):Prop where
 makes:makesIn K C=true
 init:findIn K (.ref C) "__init__"=some (some (.ref f))
 fn:isFn K (.ref f)=true
 kp:keepIn K (.ref C)=true
theorem HY{pins:List (Addr×Obj)}{σ:St}{H:Hp}{s:Shared}{Q:VK}{us:List Value}{vs:List V}(M:Mk X.K C f)(F:cu X.prog X.w X.K X.mg X.base CX k f fd ps sp)(hr:bu (k+1) X.A)(hb:Binds X.K fd ps ds)(hd:Vals x6 ds)
  (hx:Passes CX X E)(I:Inv X pins σ H s)(r:Vals vs us)
  (h:∀x dx,H x=none->H dx=none->dx≠x->sp (.ref x::(vs++x6)) (upd (upd H dx (.own x)) x (.ins C dx [])) (fun v H2=>v=.non/\Q (.ref x) H2) E):
  wpAny (model X.prog X.w) X.A (call (.ref C) us) (EP X pins σ Q) X.xe s:=by
 have hq:=h (s.heap.objs.size+1) s.heap.objs.size (I.hok.fresh (le_succ _)) (I.hok.fresh (Nat.le_refl _)) (ne_of_lt (lt_succ_self _))
 have I2:=Inv.made (C:=C) I
 have r2:Vals (V.ref (s.heap.objs.size+1)::(vs++x6)) (Value.ref (s.heap.objs.size+1)::(us++ds)):=.cons rfl (r.append hd)
 have hl:(Value.ref (s.heap.objs.size+1)::us++ds).length=ps.length:=by
  have e:=r2.length
  rw[F.len _ _ _ _ hq]at e
  exact e.symm
 refine wpAny_call (HV (f:=f) I.tK M.makes M.init (beq_iff_eq.mp M.fn) (codeAny_mono (F.run _ X.stack _ _ ⟨Value.ref (s.heap.objs.size+1)::us,[]⟩ (Value.ref (s.heap.objs.size+1)::(us++ds)) _ _ E (hr.make C us [])
  (I2.Vb.make C us []) (hb _ (Value.ref (s.heap.objs.size+1)::us) I2.tK hl) r2 hq) fun r s' Hi=>?_))
 cases r with
 |error e=>exact hx pins σ _ _ e s' I2 Hi
 |ok fl=>
  cases fl with
  |ret u=>
   obtain⟨v,H',I3,rv,ev,q3⟩:=I2.after Hi
   subst ev
   exact⟨rv,⟨V.ref (s.heap.objs.size+1),H',I3,rfl,q3⟩⟩
  |next=>exact False.elim Hi
  |brk=>exact False.elim Hi
  |cont=>exact False.elim Hi
theorem L4(M:Mk X.K C f)(F:cu X.prog X.w X.K X.mg X.base CX k f fd ps sp)(hr:bu (k+1) X.A)(hg:Gl X x)(hm:X.mg x=some (.ref C))(hb:Binds X.K fd ps ds)(hd:Vals x6 ds)(hx:Passes CX X E)
  (ha:PA X (e::es) t)(hdb:(x==("__debug__":Str))=false:=by decide)(he:starEach (e::es) X.env=(false,eval e X.env)::starEach es X.env:=by rfl)(hpl:(backTo pos (starEach es X.env)).any (·.1)=false:=by rfl):
  PE X (.Call (.Name x p) (e::es) [] pos) (Vd C sp x6 E t):=by
 intro pins s σ H Q I h
 refine wpAny_Call_Name_kw (zh I hg hm ?_ hdb)
 refine callWith_K (h₀:=X.base) I.ok.mod.UI M.kp (cj (ha pos pins s σ H _ I h) fun us s1 ⟨vs,H1,I1,r,q⟩=>⟨I1.tK,?_⟩) he hpl
 exact HY M F hr hb hd hx I1 r q
end
structure az(N P:List Str)(sc:Scope):Prop where
 kind:sc.kind=.function
 co:sc.isCoroutine=false
 gen:sc.isGenerator=false
 nd:N.Nodup
 pre:N.take P.length=P
 par:∀x∈P,sc.names.lookup x=some .local\/sc.names.lookup x=some .cell
 QN:∀y∈sc.names,y.2≠.free
theorem yy{kindOf:Str->Option NameKind}{x:Str}:∀{binds:List (Str×Value)}{m:Str->Option Value},(∀v,(x,v)∉binds)->bindL kindOf binds m x=m x
 |[],_,_=>rfl
 |(n,v)::r,m,h=>by
  unfold bindL
  rw[yy fun w hw=>h w (mem_cons_of_mem _ hw)]
  split
  ·have:x≠n:=by rintro rfl;exact h v mem_cons_self
   simp[this]
  ·rfl
theorem yz{kindOf:Str->Option NameKind}{x:Str}:∀{binds:List (Str×Value)}{m:Str->Option Value},(∀v,(x,v)∉binds)->bindC kindOf binds m x=m x
 |[],_,_=>rfl
 |(n,v)::r,m,h=>by
  unfold bindC
  rw[yz fun w hw=>h w (mem_cons_of_mem _ hw)]
  split
  ·rfl
  ·have:x≠n:=by rintro rfl;exact h v mem_cons_self
   simp[this]
theorem yA{kindOf:Str->Option NameKind}{x:Str}{v:Value}:∀{P:List Str}{vs:List Value}{i:Nat}{m:Str->Option Value},P.Nodup->P[i]?=some x->vs[i]?=some v->kindOf x=some .local->
  bindL kindOf (P.zip vs) m x=some v
 |[],_,_,_,_,h,_,_=>by simp at h
 |_::_,[],_,_,_,_,h,_=>by simp at h
 |p::P,w::vs,0,m,nd,h1,h2,hk=>by
  simp at h1 h2;subst h1;subst h2
  show bindL kindOf ((p,w)::P.zip vs) m p=_
  unfold bindL
  rw[yy fun v hv=>(nodup_cons.mp nd).1 (of_mem_zip hv).1,if_pos hk]
  simp
 |p::P,w::vs,i+1,m,nd,h1,h2,hk=>by
  show bindL kindOf ((p,w)::P.zip vs) m x=_
  unfold bindL
  exact yA (i:=i) (nodup_cons.mp nd).2 (by simpa using h1) (by simpa using h2) hk
theorem yB{kindOf:Str->Option NameKind}{x:Str}{v:Value}:∀{P:List Str}{vs:List Value}{i:Nat}{m:Str->Option Value},P.Nodup->P[i]?=some x->vs[i]?=some v->kindOf x≠some .local->
  bindC kindOf (P.zip vs) m x=some v
 |[],_,_,_,_,h,_,_=>by simp at h
 |_::_,[],_,_,_,_,h,_=>by simp at h
 |p::P,w::vs,0,m,nd,h1,h2,hk=>by
  simp at h1 h2;subst h1;subst h2
  show bindC kindOf ((p,w)::P.zip vs) m p=_
  unfold bindC
  rw[yz fun v hv=>(nodup_cons.mp nd).1 (of_mem_zip hv).1,if_neg hk]
  simp
 |p::P,w::vs,i+1,m,nd,h1,h2,hk=>by
  show bindC kindOf ((p,w)::P.zip vs) m x=_
  unfold bindC
  exact yB (i:=i) (nodup_cons.mp nd).2 (by simpa using h1) (by simpa using h2) hk
def start(N:List Str)(vs:List V):St:=vs.map some++replicate (N.length-vs.length) none
def qV(CX:Hh)(P:Program)(w:World)(K:PySem.W.Frag)(mg:Str->Option Value)(base:Heap)(N:List Str)(qual:Str)(scope:Scope)(f:Addr)(cd:Value)(A:Around)(outer:List Env)(s:Shared)(H:Hp)(E:XK):Cx where
 prog:=P
 w:=w
 K:=K
 mg:=mg
 base:=base
 A:=A.deeper (envOfC qual scope s.heap.objs.size f cd)
 N:=N
 s₀:=s
 H₀:=H
 env:=envOfC qual scope s.heap.objs.size f cd
 outer:=outer
 stack:=envOfC qual scope s.heap.objs.size f cd::outer
 ex:=[]
 calm:=true
 fn:=fun _=>true
 pn:=[]
 xe:=fun e s'=>wpAny (model P w) (A.deeper (envOfC qual scope s.heap.objs.size f cd)) (leaving (envOfC qual scope s.heap.objs.size f cd) e) (fun _ Y6=>CX outer H s E e Y6) (fun e' Y6=>CX outer H s E e' Y6) s'
theorem AH{sc:Scope}{n:Nat}{x:Str}(h:sc.names.lookup x=some .cell):∃c,(cellsFrom n sc.names []).lookup x=some c:=by
 have q:=cellsFrom_some sc.names n [] (.inl h)
 exact Option.isSome_iff_exists.mp q
theorem Gf{CX:Hh}{P:Program}{w:World}{K:PySem.W.Frag}{mg:Str->Option Value}{base:Heap}{N ps:List Str}{qual:Str}{scope:Scope}{f:Addr}{cd:Value}{A:Around}{outer:List Env}{s s1:Shared}{H:Hp}{E:XK}{us:List Value}{vs:List V}
  (S:az N ps scope)(hd:A.handled=none)(e0:CL P w K mg base A outer s H)(hl:vs.length=ps.length)(r:Vals vs us)
  (x:InCallC s s.heap.objs.size (bindL (envOfC qual scope s.heap.objs.size f cd).kindOf (ps.zip us) fun _=>none) (cellsFrom (s.heap.objs.size+1) scope.names []) (bindC (envOfC qual scope s.heap.objs.size f cd).kindOf (ps.zip us) fun _=>none) s1):
  Inv (qV CX P w K mg base N qual scope f cd A outer s H E) [] (start N vs) H s1:=by
 have hpl:ps.length<=N.length:=by have:=congrArg length S.pre;rw[length_take]at this;omega
 obtain⟨h1,tk,rfl,hk⟩:=x.done
 have Ve:∀b:Addr,b∉(qV CX P w K mg base N qual scope f cd A outer s H E).ex:=fun b z=>absurd (show b∈([]:List Addr)from z) (by simp)
 refine⟨⟨e0.mod,S.kind,rfl,rfl,Nat.le_refl _,fun y z c h1 h2=>?_,fun y hy=>?_,fun y c _ h=>?_,fun _=>hd,Around.frames_deeper e0.frames,.inr ⟨rfl,rfl⟩,fun b z=>absurd z (Ve b),e0.bs,e0.Lj,fun b _ _=>Ve b,fun b z=>absurd z (Ve b),e0.tJ,e0.NZ⟩,
  rfl,e0.bare,Un.kept hk,⟨_,x.toInCall.ns,fun i y v h1 h2 h3=>?_⟩,fun y c h=>⟨_,x.cell y c h⟩,e0.hok.fresh (Nat.le_refl _),fun y c h=>?_,fun p hp=>absurd (show p∈([]:List (Addr×Obj))from hp) (by simp),e0.hok.kept hk,?_⟩
 ·exact name_of_addr x.apart (PySem.mem_of_lookup h1) (PySem.mem_of_lookup h2)
 ·have hy:scope.names.lookup y=some .cell\/scope.names.lookup y=some .free:=hy
  rcases hy with hy|hy
  ·exact AH hy
  ·exact absurd rfl (S.QN _ (PySem.mem_of_lookup hy))
 ·exact Nat.le_of_lt (x.above y c (PySem.mem_of_lookup h))
 ·have hi:i<vs.length:=by
   unfold start at h2
   by_cases hi:i<vs.length
   ·exact hi
   ·rw[getElem?_append_right (by simpa using hi)]at h2
    rw[getElem?_replicate]at h2
    split at h2<;>cases h2
  have ha:vs[i]?=some v:=by
   unfold start at h2
   rw[getElem?_append_left (by simpa using hi),getElem?_map]at h2
   cases e:vs[i]? with
   |none=>rw[e]at h2;cases h2
   |some a=>rw[e]at h2;cases h2;rfl
  obtain⟨u,hu,rv⟩:=r.get ha
  have hp:ps[i]?=some y:=by
   rw[<-S.pre,List.getElem?_take_of_lt (by omega)];exact h1
  have ndP:ps.Nodup:=by rw[<-S.pre];exact S.nd.sublist (List.take_sublist _ _)
  refine⟨u,rv,?_⟩
  rcases S.par y (mem_of_getElem? hp)with k|k
  ·exact .inl ⟨k,yA ndP hp hu k⟩
  ·obtain⟨c,e⟩:=AH (n:=s.heap.objs.size+1) k
   refine .inr ⟨.inl k,c,e,?_⟩
   have q:=x.cell y c e
   rw[yB ndP hp hu (by show scope.names.lookup y≠_;rw[k];decide)]at q
   exact q
 ·exact e0.hok.fresh (Nat.le_of_lt (x.above y c (PySem.mem_of_lookup h)))
 ·unfold start
  show _=N.length
  rw[length_append,length_map,length_replicate]
  omega
theorem Vf{CX:Hh}{P:Program}{w:World}{K:PySem.W.Frag}{mg:Str->Option Value}{base:Heap}{k:Nat}{f:Addr}{name qual:Str}{params:Arguments}{body:List Stmt}{scope:Scope}{dV kV doc pm cdv ct oc:Value}{an od:Option Addr}
  {Hj:Array (Option Value)}{N ps:List Str}{sp:Sp}(lk:K.lookup f=some ⟨oc,od,.func (PySem.W.fnOf name qual params body scope dV kV doc pm an cdv ct),Hj⟩)(hcd:codeIn K cdv qual=true)(S:az N ps scope)
  (len:∀vs H Q E,sp vs H Q E->vs.length=ps.length)
  (hbody:∀(A:Around)(outer:List Env)(s:Shared)(H:Hp)(vs:List V)(Q:VK)(E:XK),bu k (A.deeper (envOfC qual scope s.heap.objs.size f cdv))->sp vs H Q E->
   ∃t,qD (qV CX P w K mg base N qual scope f cdv A outer s H E) body t/\t {nx:=fun _ H'=>Q .non H',rt:=Q} (start N vs) H):
  cu P w K mg base CX (k+1) f (PySem.W.fnOf name qual params body scope dV kV doc pm an cdv ct) ps sp:=by
 refine⟨len,fun A outer s H args us vs Q E hr e0 hb r x8=>?_⟩
 have hl:=len _ _ _ _ x8
 have KX:K.In s.heap:=e0.mod.UI.keeps fun b o e=>(e0.bs b o e).1
 have lim:s.heap.NoLimit:=e0.mod.nolimit.keeps fun b o e=>(e0.bs b o e).1
 have hkind:∀y∈ps.zip us,scope.names.lookup y.1=some .local\/(scope.names.lookup y.1=some .cell/\((cellsFrom (s.heap.objs.size+1) scope.names []).lookup y.1).isSome=true):=fun⟨n,v⟩ hy=>by
  rcases S.par n (of_mem_zip hy).1 with q|q
  ·exact .inl q
  ·exact .inr ⟨q,cellsFrom_some _ _ _ (.inl q)⟩
 refine codeAny_call_function hr.depth (KX _ _ lk) rfl S.co S.gen rfl (PySem.W.codeRec_of KX hcd) (hb _ _ _ _ ?_)
 refine wpAny_newFunctionEnv_cells S.kind hkind fun env he s1 x=>?_
 subst he
 refine⟨lim.keeps x.toInCall.keep,codeAny_func ?_⟩
 obtain⟨t,ht,hq⟩:=hbody A outer s H vs Q E (hr.deeper _) x8
 have I:Inv (qV CX P w K mg base N qual scope f cdv A outer s H E) [] (start N vs) H s1:=Gf S hr.hd e0 hl r x
 refine wpAny_mono (ht [] s1 (start N vs) H _ I hq) (fun fl s' hs=>?_) fun e s' hs=>hs
 have fin:∀{σ':St}{H':Hp}{v:V}{u:Value},Inv (qV CX P w K mg base N qual scope f cdv A outer s H E) [] σ' H' s'->RelV v u->Q v H'->CE outer P w H s Q u s':=
  fun{σ' H' v u} J rv q=>⟨v,H',J.os,J.bare,J.base,J.hok,rv,q⟩
 cases fl with
 |ret u=>
  obtain⟨v,σ',H',J,rv,q⟩:=hs
  exact fin J rv q
 |next=>
  obtain⟨σ',H',J,q⟩:=hs
  exact fin (v:=V.non) (u:=Value.none) J rfl q
 |brk=>
  obtain⟨_,_,_,q⟩:=hs
  exact False.elim q
 |cont=>
  obtain⟨_,_,_,q⟩:=hs
  exact False.elim q
end L2
namespace L2
open PySem PySem.Spec PyProof.Rows
section
variable{X:Cx}{x:Str}{p pos:Pos}{e:Expr}{es:List Expr}{t:TA}{id T:String}{r:List V->Hp->VK->Prop}
def Y7(r:List V->Hp->VK->Prop)(t:TA):TE:=fun σ H Q=>t σ H fun vs H1=>r vs H1 Q
theorem jt(hc:qE X (.builtin id) r)(hg:Gl X x)(hm:X.mg x=none)(hv:bootBuiltins x=some (.builtin id))(ha:PA X (e::es) t)(hn:x≠"__name__":=by decide)(hdb:(x==("__debug__":Str))=false:=by decide)
  (he:starEach (e::es) X.env=(false,eval e X.env)::starEach es X.env:=by rfl)(hpl:(backTo pos (starEach es X.env)).any (·.1)=false:=by rfl):PE X (.Call (.Name x p) (e::es) [] pos) (Y7 r t):=by
 intro pins s σ H Q I h
 refine wpAny_Call_Name_kw (gD I hg hm hv ?_ hn hdb)
 exact PyProof.Rows.callWith_builtin1 (cj (ha pos pins s σ H _ I h) fun us s1 ⟨vs,H1,I1,r1,q1⟩=>hc pins s1 σ H1 vs us Q I1 r1 q1) he hpl
theorem qg(hc:qE X (.type T) r)(hg:Gl X x)(hm:X.mg x=none)(hv:bootBuiltins x=some (.type T))(ha:PA X (e::es) t)(hn:x≠"__name__":=by decide)(hdb:(x==("__debug__":Str))=false:=by decide)
  (he:starEach (e::es) X.env=(false,eval e X.env)::starEach es X.env:=by rfl)(hpl:(backTo pos (starEach es X.env)).any (·.1)=false:=by rfl):PE X (.Call (.Name x p) (e::es) [] pos) (Y7 r t):=by
 intro pins s σ H Q I h
 refine wpAny_Call_Name_kw (gD I hg hm hv ?_ hn hdb)
 exact PyProof.Rows.callWith_type1 (cj (ha pos pins s σ H _ I h) fun us s1 ⟨vs,H1,I1,r1,q1⟩=>hc pins s1 σ H1 vs us Q I1 r1 q1) he hpl
end
end L2
namespace HT
open PySem PyProof.Rows
section
open PySem.SeqAt
open PySem.AutoSeq1 (wpAny_loadPart')
open PySem.MeetsSeq PySem.MeetsSeq2 PySem.MeetsSeq3
end
section
variable{prog:Program}{w:World}{A:Around}{E:Value->Shared->Prop}{s:Shared}
def wD(n d:Nat):Option Int->Nat
 |none=>d
 |some v=>if v<0 then(v+(n:Int)).toNat else min v.toNat n
theorem o7(n d:Nat):wD n d none=d:=rfl
theorem nC(n d k:Nat):wD n d (some (k:Int))=min k n:=by
 show(if(k:Int)<0 then((k:Int)+(n:Int)).toNat else min (k:Int).toNat n)=min k n
 rw[if_neg (by omega),toNat_natCast]
end
end HT
namespace L2
open PySem PySem.Spec PyProof.Rows
abbrev TO:=St->Hp->(Option Int->Hp->Prop)->Prop
def PO(X:Cx)(e:Option Expr)(t:TO):Prop:=
 ∀(pins:List (Addr×Obj))(s:Shared)(σ:St)(H:Hp)(Q:Option Int->Hp->Prop),Inv X pins σ H s->t σ H Q->
  wpAny (model X.prog X.w) X.A (evalPart e X.env) (fun u s'=>∃o H',Inv X pins σ H' s'/\IsPart u o/\Q o H') X.xe s
def L5:TO:=fun _ H Q=>Q none H
def Vg(t:TE):TO:=fun σ H Q=>t σ H fun x H1=>∃i,x=.int i/\Q (some i) H1
theorem intsAre_of{ns:List Int}:∀{us:List Value},Vals (ns.map V.int) us->IntsAre us ns:=by
 induction ns with
 |nil=>intro us r;rw[map_nil]at r;cases r;exact .nil
 |cons n ns ih=>
  intro us r
  rw[map_cons]at r
  cases r with
  |cons r1 r2=>
   obtain⟨t,e⟩:=r1
   subst e
   exact .cons n t (ih r2)
section
variable{X:Cx}{e:Expr}{te:TE}{lo hi:Option Expr}{tl th:TO}{pos p2:Pos}
theorem D0:PO X none L5:=by
 intro pins s σ H Q I h
 rw[evalPart_none]
 exact wpAny_pure ⟨none,H,I,.none,h⟩
theorem D1(h:PE X e te):PO X (some e) (Vg te):=by
 intro pins s σ H Q I hw
 rw[evalPart_some]
 refine cj (h pins s σ H _ I hw) fun u s1 ⟨x,H1,I1,r1,q1⟩=>?_
 obtain⟨i,rfl,q⟩:=q1
 obtain⟨t,rfl⟩:=r1
 exact⟨some i,H1,I1,.int i t,q⟩
def SlR(X:Cx)(r:V->Option Int->Option Int->Hp->VK->Prop):Prop:=
 ∀(pins:List (Addr×Obj))(s:Shared)(σ:St)(H:Hp)(x:V)(v vl vu:Value)(lo hi:Option Int)(sl:Addr)(Q:VK),Inv X pins σ H s->RelV x v->s.heap.IsSliceOf sl vl vu .none->IsPart vl lo->IsPart vu hi->r x lo hi H Q->
  ∃T id,typeLookup (.type T) "__getitem__"=pure (some (.builtin id))/\s.TypeIs v T/\wpAny (model X.prog X.w) X.A (getItem v (.ref sl)) (EP X pins σ Q) X.xe s
def tSl(r:V->Option Int->Option Int->Hp->VK->Prop)(te:TE)(tl th:TO):TE:=fun σ H Q=>te σ H fun x H1=>tl σ H1 fun l H2=>th σ H2 fun u H3=>r x l u H3 Q
theorem AI{r:V->Option Int->Option Int->Hp->VK->Prop}(hr:SlR X r)(he:PE X e te)(hl:PO X lo tl)(hu:PO X hi th):PE X (.Subscript e (.Slice lo hi none p2) pos) (tSl r te tl th):=by
 intro pins s σ H Q I h
 refine Subscript_ (cj (he pins s σ H _ I h) fun v s1 ⟨x,H1,I1,r1,q1⟩=>?_)
 refine wpAny_Slice (cj (hl pins s1 σ H1 _ I1 q1) fun vl s2 ⟨l,H2,I2,pl,q2⟩=>cj (hu pins s2 σ H2 _ I2 q2) fun vu s3 ⟨u,H3,I3,pu,q3⟩=>?_)
 rw[evalPart_none]
 refine wpAny_pure ?_
 have I4:Inv X pins σ H3 {s3 with heap:=s3.heap.push {cls:=.type "slice",data:=.fields #[vl,vu,.none]}}:=I3.kept (t':=s3.toks) fun b ob q=>Heap.get?_push_of_some _ q
 obtain⟨T,id,hT,ht,hg⟩:=hr pins {s3 with heap:=s3.heap.push {cls:=.type "slice",data:=.fields #[vl,vu,.none]}} σ H3 x v vl vu l u s3.heap.objs.size Q I4 r1 (Heap.IsSliceOf.new ..) pl pu q3
 show wpAny (model X.prog X.w) X.A (subscriptTail e (.Slice lo hi none p2) v (.ref s3.heap.objs.size)) (EP X pins σ Q) X.xe {s3 with heap:=s3.heap.push {cls:=.type "slice",data:=.fields #[vl,vu,.none]}}
 exact tail_any (ops:=[.ref s3.heap.objs.size,v]) ht hT hg (by with_unfolding_all rfl)
def x9(xs:List V)(lo hi:Option Int):List V:=(xs.drop (HT.wD xs.length 0 lo)).take (HT.wD xs.length xs.length hi-HT.wD xs.length 0 lo)
theorem AJ(xs:List V)(lo hi:Option Int):(x9 xs lo hi).length<=xs.length:=by
 unfold x9
 rw[length_take,length_drop]
 omega
end
end L2
namespace L2
open PySem PySem.Spec PyProof.Rows
def rq(n:Nat)(i:Int):Option Nat:=if 0<=i then(if i<n then some i.toNat else none)else if-(n:Int)<=i then some (i+n).toNat else none
def ju{α:Type}(xs:List α)(i:Int):Option α:=(rq xs.length i).bind fun j=>xs[j]?
theorem D2{n:Nat}{i:Int}{j:Nat}(h:rq n i=some j):seqIndex? i n=some j/\j<n/\ -(n:Int)<=i/\i<n:=by
 unfold rq at h
 by_cases h0:0<=i
 ·rw[if_pos h0]at h
  by_cases h1:i<n
  ·rw[if_pos h1]at h
   have e:i.toNat=j:=Option.some.inj h
   exact⟨by rw[seqIndex_of h0 h1,e],by omega,by omega,h1⟩
  ·rw[if_neg h1]at h;cases h
 ·rw[if_neg h0]at h
  by_cases h1: -(n:Int)<=i
  ·rw[if_pos h1]at h
   have e:(i+n).toNat=j:=Option.some.inj h
   exact⟨by rw[seqIndex_neg (by omega) h1,e],by omega,h1,by omega⟩
  ·rw[if_neg h1]at h;cases h
theorem zk{α:Type}{xs:List α}{i:Int}{v:α}(h:ju xs i=some v):∃j,seqIndex? i xs.length=some j/\xs[j]?=some v/\j<xs.length/\ -(xs.length:Int)<=i/\i<xs.length:=by
 unfold ju at h
 cases e:rq xs.length i with
 |none=>rw[e]at h;cases h
 |some j=>
  rw[e]at h
  obtain⟨h1,h2,h3,h4⟩:=D2 e
  exact⟨j,h1,h,h2,h3,h4⟩
theorem jb{α:Type}{xs:List α}{j:Nat}{v:α}(h:xs[j]?=some v):ju xs (j:Int)=some v:=by
 have hj:j<xs.length:=(List.getElem?_eq_some_iff.mp h).1
 have e:rq xs.length (j:Int)=some j:=by
  unfold rq
  rw[if_pos (by omega),if_pos (by omega)];simp
 unfold ju;rw[e];exact h
theorem wF{α:Type}(xs:List α)(v:α):ju (xs++[v]) (-1)=some v:=by
 have hl:(xs++[v]).length=xs.length+1:=by simp
 have e:rq (xs++[v]).length (-1)=some xs.length:=by
  unfold rq
  rw[hl,if_neg (by decide),if_pos (by omega)]
  congr 1
  omega
 unfold ju
 rw[e]
 show(xs++[v])[xs.length]?=some v
 simp
def vP(b:Expr):Prop:=∀o i,subscripted b false o i=operate [o,i] (getItem o i)
def L6(X:Cx)(r:R2):Prop:=
 ∀(value slice:Expr)(pins:List (Addr×Obj))(s:Shared)(σ:St)(H:Hp)(x y:V)(v u:Value)(Q:VK),Inv X pins σ H s->RelV x v->RelV y u->r x y H Q->
  subscripted slice false v u=operate [v,u] (getItem v u)->wpAny (model X.prog X.w) X.A (subscriptTail value slice v u) (EP X pins σ Q) X.xe s
def XQ(X:Cx)(id:String)(r:V->List V->Hp->VK->Prop):Prop:=
 ∀(pins:List (Addr×Obj))(s:Shared)(σ:St)(H:Hp)(x:V)(xs:List V)(v:Value)(us:List Value)(Q:VK),Inv X pins σ H s->RelV x v->Vals xs us->r x xs H Q->
  wpAny (model X.prog X.w) X.A (call (.builtin id) (v::us)) (EP X pins σ Q) X.xe s
section
variable{X:Cx}{a b:Expr}{ta tb:TE}{pos:Pos}
theorem L6.or {r r':R2}(h:L6 X r)(h':L6 X r'):L6 X (fun x y H Q=>r x y H Q\/r' x y H Q):=by
 intro value slice pins s σ H x y v u Q I rx ry q hs
 rcases q with q|q
 ·exact h value slice pins s σ H x y v u Q I rx ry q hs
 ·exact h' value slice pins s σ H x y v u Q I rx ry q hs
theorem iK{r:R2}(hr:L6 X r)(ha:PE X a ta)(hb:PE X b tb)(hs:vP b):PE X (.Subscript a b pos) (U3 r ta tb):=by
 intro pins s σ H Q I h
 exact Subscript_ (QF ha hb I h fun v u s2 x y H2 I2 rx ry q=>hr a b pins s2 σ H2 x y v u Q I2 rx ry q (hs _ _))
def QO(K:PySem.W.Frag):R2:=fun x y H Q=>∃p xs i v,x=.ref p/\y=.int i/\ck K H p xs/\ju xs i=some v/\Q v H
def Vh(K:PySem.W.Frag):R2:=fun x y H Q=>∃p xs i v,x=.ref p/\y=.int i/\AF K H p xs/\ju xs i=some v/\Q v H
def Vi:R2:=fun x y H Q=>∃z i c,x=.str z/\y=.int i/\z.length<=sizeLine/\ju z.cps.toList i=some c/\Q (.str ⟨#[c]⟩) H
theorem dC:L6 X (QO X.K):=by
 intro value slice pins s σ H x y v u Q I rx ry h hs
 obtain⟨p,xs,i,z,rfl,rfl,hq,he,q⟩:=h
 cases rx
 obtain⟨t,rfl⟩:=ry
 obtain⟨its,r,pl,hz⟩:=I.list hq
 obtain⟨j,h1,h2,h3,h4,h5⟩:=zk he
 obtain⟨w,ew,oY⟩:=r.get h2
 have hl:=r.length
 have hn:=qU
 have fin:EP X pins σ Q w s:=⟨z,H,I,oY,q⟩
 by_cases h0:0<=i
 ·have hj:i.toNat=j:=by
   rw[seqIndex_of h0 h5]at h1
   exact Option.some.inj h1
  exact item_listR pl.isList h0 (by omega) (by rw[hj];simpa using ew) fin hs
 ·have hj:(i+(its.toArray.size:Int)).toNat=j:=by
   rw[seqIndex_neg (by omega) h4]at h1
   rw[size_toArray,<-hl]
   exact Option.some.inj h1
  exact subscriptTail_builtinR (x:=w) pl.isList.typeIs slot_list_getitem.lookup
   (wpAny_getItem_list_neg (Q:=fun r s'=>r=w/\EP X pins σ Q r s') pl.isList (by omega) (by rw[size_toArray]<;>omega) (by omega) (by rw[hj];simpa using ew) ⟨rfl,fin⟩) hs
theorem zm:L6 X (Vh X.K):=by
 intro value slice pins s σ H x y v u Q I rx ry h hs
 obtain⟨p,xs,i,z,rfl,rfl,hq,he,q⟩:=h
 cases rx
 obtain⟨t,rfl⟩:=ry
 obtain⟨its,r,pl,hz⟩:=I.tuple hq
 obtain⟨j,h1,h2,h3,h4,h5⟩:=zk he
 obtain⟨w,ew,oY⟩:=r.get h2
 have hl:=r.length
 have hn:=qU
 have fin:EP X pins σ Q w s:=⟨z,H,I,oY,q⟩
 exact subscriptTail_builtinR (x:=w) pl.typeIs slot_tuple_getitem.lookup
  (getItem_tuple (j:=j) (Q:=fun r s'=>r=w/\EP X pins σ Q r s') pl (by omega) (by omega) (by rw[size_toArray,<-hl];exact h1) (by simpa using ew) ⟨rfl,fin⟩) hs
theorem QP:L6 X Vi:=by
 intro value slice pins s σ H x y v u Q I rx ry h hs
 obtain⟨z,i,c,rfl,rfl,hz,he,q⟩:=h
 obtain⟨t,rfl⟩:=rx
 obtain⟨t',rfl⟩:=ry
 obtain⟨j,h1,h2,h3,h4,h5⟩:=zk he
 have hl:z.cps.toList.length=z.length:=by simp[Str.length]
 rw[hl]at h1 h4 h5
 have hn:=qU
 exact tail_any (typeIs_str s z t) slot_str_getitem.lookup (getItem_str (c:=c) (by
  have e1:decide (i< -(2^63:Int))=false:=decide_eq_false (by omega)
  have e2:decide (i>=2^63)=false:=decide_eq_false (by omega)
  rw[e1,e2,Bool.or_false]) (by rw[h1];simpa using h2) ⟨.str ⟨#[c]⟩,H,I.tok _,⟨_,rfl⟩,q⟩) hs
def rIx(K:PySem.W.Frag):R2:=fun x y H Q=>QO K x y H Q\/Vh K x y H Q\/Vi x y H Q
theorem QQ:L6 X (rIx X.K):=dC.or (zm.or QP)
theorem CN(its:List Value)(n j:Nat)(u:Value):Obj.mapSeq (·.setIfInBounds j u) {cls:=.type "list",data:=.seq its.toArray n}={cls:=.type "list",data:=.seq (its.set j u).toArray n}:=by
 simp[Obj.mapSeq]
theorem Inv.lst {pins:List (Addr×Obj)}{σ:St}{H:Hp}{s:Shared}{p:Addr}{xs:List V}(I:Inv X pins σ H s)(h:H p=some (.lst xs)):
  ∃(its:List Value)(n:Nat),Vals xs its/\s.heap.get? p=some {cls:=.type "list",data:=.seq its.toArray n}/\xs.length<=sizeLine:=by
 obtain⟨z,its,n,r,e⟩:=I.hok p _ h
 exact⟨its,n,r,e,z⟩
theorem Inv.QR {pins:List (Addr×Obj)}{σ:St}{H:Hp}{s:Shared}{p:Addr}{xs ys:List V}{its its':List Value}{n n':Nat}{f:Obj->Obj}(I:Inv X pins σ H s)(h:H p=some (.lst xs))
  (ho:s.heap.get? p=some {cls:=.type "list",data:=.seq its.toArray n})(hf:f {cls:=.type "list",data:=.seq its.toArray n}={cls:=.type "list",data:=.seq its'.toArray n'})(r:Vals ys its')(hz:ys.length<=sizeLine)(t:Nat):
  Inv X pins σ (upd H p (.lst ys)) {s with heap:=s.heap.update p f,toks:=t}:=by
 have e:(s.heap.update p f).get? p=some {cls:=.type "list",data:=.seq its'.toArray n'}:=by
  rw[Heap.get?_update_self f ho (by rw[hf]<;>rfl),hf]
 refine I.write (x:=p) (e:=p) (by rw[h];trivial) (.inl rfl) (fun b u hb q=>(Heap.get?_update_other _ _ (Ne.symm hb)).trans q) ⟨_,e⟩ ?_
 exact⟨hz,its',n',r,e⟩
def Vj:V->V->V->Hp->(Hp->Prop)->Prop:=fun o i v H Q=>∃p xs k j,o=.ref p/\i=.int k/\H p=some (.lst xs)/\rq xs.length k=some j/\Q (upd H p (.lst (xs.set j v)))
theorem set_list:UR X Vj:=by
 intro pins s σ H o i v ov iv u Q I ro ri rv h
 obtain⟨p,xs,k,j,rfl,rfl,hp,hj,q⟩:=h
 cases ro
 obtain⟨t,rfl⟩:=ri
 obtain⟨its,n,r,ho,hz⟩:=I.lst hp
 obtain⟨h1,h2,h3,h4⟩:=D2 hj
 have hl:=r.length
 have hn:=qU
 have I':Inv X pins σ (upd H p (.lst (xs.set j v))) {s with heap:=s.heap.update p (Obj.mapSeq (·.setIfInBounds j u))}:=
  I.QR hp ho (CN its n j u) (r.set rv j) (by rw[length_set];exact hz) s.toks
 by_cases h0:0<=k
 ·have hk:k.toNat=j:=by
   rw[seqIndex_of h0 h4]at h1
   exact Option.some.inj h1
  exact PySem.W.ki_setAt ho h0 (by omega) (by rw[size_toArray,<-hl];exact h4) (by rw[hk];exact⟨_,I',q⟩)
 ·have hk:(k+(its.toArray.size:Int)).toNat=j:=by
   rw[seqIndex_neg (by omega) h3]at h1
   rw[size_toArray,<-hl]
   exact Option.some.inj h1
  exact PySem.W.ki_setBack ho (by omega) (by rw[size_toArray,<-hl];exact h3) (by omega) (by rw[hk];exact⟨_,I',q⟩)
theorem zo(lo hi:Option Int)(n:Nat):(sliceBounds lo hi none n).1=((HT.wD n 0 lo:Nat):Int)/\(sliceBounds lo hi none n).2.1=((HT.wD n n hi:Nat):Int)/\(sliceBounds lo hi none n).2.2=1:=by
 refine⟨?_,?_,rfl⟩
 ·cases lo with
  |none=>simp[sliceBounds,HT.wD]
  |some i=>
   simp only [sliceBounds,HT.wD,getD_none,show(1:Int)>0 by decide,if_true]
   by_cases h:i<0
   ·simp only [h,if_true]<;>omega
   ·simp only [h,if_false]<;>omega
 ·cases hi with
  |none=>simp[sliceBounds,HT.wD]
  |some i=>
   simp only [sliceBounds,HT.wD,getD_none,show(1:Int)>0 by decide,if_true]
   by_cases h:i<0
   ·simp only [h,if_true]<;>omega
   ·simp only [h,if_false]<;>omega
theorem ya(its:List Value)(lo hi:Option Int):slicePick its.toArray lo hi none=((its.drop (HT.wD its.length 0 lo)).take (HT.wD its.length its.length hi-HT.wD its.length 0 lo)).toArray:=by
 obtain⟨h1,h2,h3⟩:=zo lo hi its.toArray.size
 unfold slicePick
 rw[h1,h2,h3]
 simp only [sliceRange_one,pick_run,size_toArray]<;>rfl
def Y8(K:PySem.W.Frag):V->Option Int->Option Int->Hp->VK->Prop:=fun x lo hi H Q=>∃a xs,x=.ref a/\ck K H a xs/\∀p,H p=none->Q (.ref p) (upd H p (.lst (x9 xs lo hi)))
theorem D3:SlR X (Y8 X.K):=by
 intro pins s σ H x v vl vu lo hi sl Q I rx hs pl pu h
 obtain⟨a,xs,rfl,hx,q⟩:=h
 cases rx
 obtain⟨its,r,ht,hz⟩:=I.list hx
 have hlen:=r.length
 refine⟨"list",_,slot_list_getitem.lookup,ht.isList.typeIs,?_⟩
 refine wpAny_getItem_list_slice ht.isList hs pl pu .none (by simp) ?_ (by rw[size_toArray]<;>omega)
 rw[ya,<-hlen]
 refine⟨.ref s.heap.objs.size,_,I.laid (t':=s.toks) (o:=.lst (x9 xs lo hi)) (fun b ob q=>Heap.get?_push_of_some _ q) (Nat.le_refl _) ?_,rfl,q _ (I.hok.fresh (Nat.le_refl _))⟩
 exact⟨le_trans (AJ xs lo hi) hz,_,0,(r.drop (HT.wD xs.length 0 lo)).take (HT.wD xs.length xs.length hi-HT.wD xs.length 0 lo),Heap.get?_push_size _ rfl⟩
theorem nE:qE X (.builtin "len") (fun xs H Q=>∃p ys,xs=[.ref p]/\(ck X.K H p ys\/AF X.K H p ys)/\Q (.int ys.length) H):=by
 intro pins s σ H xs us Q I r h
 obtain⟨p,ys,rfl,hq,q⟩:=h
 obtain⟨u,rfl,rx⟩:=vals1 r
 cases rx
 have hn:=qU
 rcases hq with hq|hq
 ·obtain⟨its,r',pl,hz⟩:=I.list hq
  have hlen:=r'.length
  exact Calls.call_len_list pl.isList (by simp only [size_toArray]<;>omega) ⟨.int ys.length,H,I.tok _,⟨s.toks+1,by rw[size_toArray,hlen]⟩,q⟩
 ·obtain⟨its,r',pl,hz⟩:=I.tuple hq
  have hlen:=r'.length
  exact len_tuple pl (by simp only [size_toArray]<;>omega) ⟨.int ys.length,H,I.tok _,⟨s.toks+1,by rw[size_toArray,hlen]⟩,q⟩
theorem nG:qE X (.type "list") (fun xs H Q=>∃p ys,xs=[.ref p]/\(ck X.K H p ys\/AF X.K H p ys)/\∀l,H l=none->Q (.ref l) (upd H l (.lst ys))):=by
 intro pins s σ H xs us Q I r h
 obtain⟨p,ys,rfl,hq,q⟩:=h
 obtain⟨u,rfl,rx⟩:=vals1 r
 cases rx
 have fin:∀(its:List Value),Vals ys its->ys.length<=sizeLine->∀(h':Heap)(c':Nat),(∀b o',s.heap.get? b=some o'->h'.get? b=some o')->
   h'.get? s.heap.objs.size=some {cls:=.type "list",dict:=none,data:=.seq its.toArray c',slots:=#[]}->EP X pins σ Q (.ref s.heap.objs.size) {s with heap:=h'}:=fun its r' hz h' c' kp e=>
  ⟨.ref s.heap.objs.size,_,I.laid (t':=s.toks) kp (Nat.le_refl _) (show cT X.prog X.w _ h' _ (.lst ys)from⟨hz,its,c',r',e⟩),rfl,q _ (I.hok.fresh (Nat.le_refl _))⟩
 rcases hq with hq|hq
 ·obtain⟨its,r',pl,hz⟩:=I.list hq
  have hlen:=r'.length
  obtain⟨o,ho,hc,n,hd⟩:=pl.isList
  exact call_list_seq p (.inl rfl) ho hc hd (fun h' c' kp e=>fin its r' hz h' c' kp e) (by simp only [size_toArray]<;>omega)
 ·obtain⟨its,r',pl,hz⟩:=I.tuple hq
  have hlen:=r'.length
  obtain⟨o,ho,hc,n,hd⟩:=pl
  exact call_list_seq p (.inr rfl) ho hc hd (fun h' c' kp e=>fin its r' hz h' c' kp e) (by simp only [size_toArray]<;>omega)
theorem yb:qE X (.type "tuple") (fun xs H Q=>∃p ys,xs=[.ref p]/\((ck X.K H p ys/\∀l,H l=none->Q (.ref l) (upd H l (.tup ys)))\/(AF X.K H p ys/\Q (.ref p) H))):=by
 intro pins s σ H xs us Q I r h
 obtain⟨p,ys,rfl,h⟩:=h
 obtain⟨u,rfl,rx⟩:=vals1 r
 cases rx
 rcases h with⟨hq,q⟩|⟨hq,q⟩
 ·obtain⟨its,r',pl,hz⟩:=I.list hq
  have hlen:=r'.length
  refine call_tuple_list pl.isList (fun h' kp=>?_) (by simp only [size_toArray]<;>omega)
  have I1:Inv X pins σ H {s with heap:=h'}:=I.kept (t':=s.toks) kp
  have I2:Inv X pins σ (upd H h'.objs.size (.tup ys)) {s with heap:=h'.push {cls:=.type "tuple",data:=.seq its.toArray}}:=
   I1.laid (t':=s.toks) (fun b o e=>Heap.get?_push_of_some _ e) (Nat.le_refl _) (show cT X.prog X.w _ _ _ (.tup ys)from⟨hz,its,r',IsTup.new _ _⟩)
  exact⟨.ref h'.objs.size,_,I2,rfl,q _ (I1.hok.fresh (Nat.le_refl _))⟩
 ·obtain⟨its,r',pl,hz⟩:=I.tuple hq
  exact call_tuple_same pl ⟨.ref p,H,I,rfl,q⟩
def Y9(K:PySem.W.Frag)(T:String)(x:V)(H:Hp):Prop:=match x with
 |.str _=>T="str"
 |.int _=>T="int"
 |.ref p=>(T="list"/\∃xs,ck K H p xs)\/(T="tuple"/\∃o,K.lookup p=some o/\o.cls=.type "tuple"/\o.dict=none)\/
   (T="dict"/\((∃kvs,H p=some (.dK kvs))\/∃kvs,H p=some (.dT kvs)))\/(T="set"/\∃S n,H p=some (.set S n))
 |_=>False
theorem HZ{pins:List (Addr×Obj)}{σ:St}{H:Hp}{s:Shared}{T:String}{x:V}{v:Value}(I:Inv X pins σ H s)(r:RelV x v)(ty:Y9 X.K T x H):
  s.TypeIs v T/\∀a,v=.ref a->∃ob,s.heap.get? a=some ob/\ob.dict=none:=by
 cases x with
 |str z=>
  obtain⟨t,rfl⟩:=r
  cases (show T="str" from ty)
  exact⟨typeIs_str s z t,fun _ e=>nomatch e⟩
 |int i=>
  obtain⟨t,rfl⟩:=r
  cases (show T="int" from ty)
  exact⟨typeIs_int s i t,fun _ e=>nomatch e⟩
 |ref p=>
  cases r
  rcases ty with⟨rfl,xs,hq⟩|⟨rfl,o,hk,hc,hd⟩|⟨rfl,hk⟩|⟨rfl,S,n,hk⟩
  ·obtain⟨its,_,pl,_⟩:=I.list hq
   refine⟨pl.isList.typeIs,fun a e=>?_⟩
   cases e
   obtain⟨o,n,e,c,hd,_⟩:=pl
   exact⟨o,e,hd⟩
  ·refine⟨⟨o,I.tK p o hk,hc⟩,fun a e=>?_⟩
   cases e
   exact⟨o,I.tK _ o hk,hd⟩
  ·have z:∃o,s.heap.get? p=some o/\o.ExactDict:=by
    rcases hk with⟨kvs,hk⟩|⟨kvs,hk⟩
    ·obtain⟨_,_,_,_,o,_,_,e,ex,_⟩:=I.hok p _ hk
     exact⟨o,e,ex⟩
    ·obtain⟨_,_,_,_,o,_,_,e,ex,_⟩:=I.hok p _ hk
     exact⟨o,e,ex⟩
   obtain⟨o,e,ex⟩:=z
   refine⟨⟨o,e,ex.1⟩,fun a e2=>?_⟩
   cases e2
   exact⟨o,e,ex.2.1⟩
  ·obtain⟨o,_,_,_,e,ex,_⟩:=I.hok p _ hk
   refine⟨⟨o,e,ex.1⟩,fun a e2=>?_⟩
   cases e2
   exact⟨o,e,ex.2.1⟩
 |_=>exact False.elim ty
def Za(K:PySem.W.Frag)(T:String)(r:V->List V->Hp->VK->Prop)(to:TE):TE:=fun σ H Q=>to σ H fun x H1=>Y9 K T x H1/\r x [] H1 Q
def tBM(K:PySem.W.Frag)(T:String)(r:V->List V->Hp->VK->Prop)(to:TE)(t:TA):TE:=fun σ H Q=>to σ H fun x H1=>Y9 K T x H1/\t σ H1 fun xs H2=>r x xs H2 Q
variable{o e:Expr}{es:List Expr}{to:TE}{t:TA}{name:Str}{apos aY:Pos}{T id:String}{r:V->List V->Hp->VK->Prop}
theorem zp(pa:PlainAttrs T)(slot:Slot T name id)(hty:typeOf (.builtin id)=pure (.type "method_descriptor"))(hm:XQ X id r)(ho:PE X o to)
  (hbase:attributeBase o name X.env (eval o X.env)=eval o X.env:=by rfl)(hline:(apos.endLine==aY.line)=true:=by rfl):PE X (.Call (.Attribute o name apos) [] [] aY) (Za X.K T r to):=by
 intro pins s σ H Q I h
 refine wpAny_Call_method0_late hbase hline (cj (ho pins s σ H _ I h) fun v s1 ⟨x,H1,I1,r1,ty,q1⟩=>?_)
 obtain⟨h1,h2⟩:=HZ I1 r1 ty
 exact⟨T,id,pa,slot,hty,h1,h2,Calls.callWith_builtin rfl (PySem.evalArgs_none (hm pins s1 σ H1 x [] v [] Q I1 r1 .nil q1))⟩
theorem rB(pa:PlainAttrs T)(slot:Slot T name id)(hty:typeOf (.builtin id)=pure (.type "method_descriptor"))(hm:XQ X id r)(ho:PE X o to)(ha:PA X (e::es) t)
  (hbase:attributeBase o name X.env (eval o X.env)=eval o X.env:=by rfl)
  (hfew:((backTo aY (starEach (e::es) X.env)).all (fun x=> !x.1)&&(backToKw aY (keywordEach [] X.env)).all (fun x=>x.1.isSome)
   &&decide ((e::es).length+([]:List Keyword).length+(if([]:List Keyword).isEmpty then 0 else 1)<30))=true:=by rfl)
  (hline:(apos.endLine==aY.line)=true:=by rfl)(hs:starEach (e::es) X.env=(false,eval e X.env)::starEach es X.env:=by rfl)(hplain:(backTo aY (starEach es X.env)).any (·.1)=false:=by rfl):
  PE X (.Call (.Attribute o name apos) (e::es) [] aY) (tBM X.K T r to t):=by
 intro pins s σ H Q I h
 refine wpAny_Call_method_late hbase hfew hline rfl (cj (ho pins s σ H _ I h) fun v s1 ⟨x,H1,I1,r1,ty,q1⟩=>?_)
 obtain⟨h1,h2⟩:=HZ I1 r1 ty
 refine⟨T,id,pa,slot,hty,h1,h2,?_⟩
 have hA:=ha aY pins s1 σ H1 _ I1 q1
 rw[hs]at hA⊢
 refine Calls.callWith_builtin (by show(false||(backTo aY (starEach es X.env)).any (·.1))=false;rw[hplain]<;>rfl) (Calls.evalArgs_plain ?_)
 exact cj hA fun us s2 ⟨vs,H2,I2,r2,q2⟩=>hm pins s2 σ H2 x vs v us Q I2 r1 r2 q2
end
end L2
namespace L2
open PySem PySem.Spec PyProof.Rows
def XR(X:Cx)(id:String)(r:V->List V->Hp->VK->Prop):Prop:=
 ∀(pins:List (Addr×Obj))(s:Shared)(σ:St)(H:Hp)(x:V)(xs:List V)(v:Value)(us:List Value)(Q:VK),Inv X pins σ H s->RelV x v->Vals xs us->r x xs H Q->
  wpAny (model X.prog X.w) X.A (call (.builtin id) (v::us)) (EP X pins σ Q) X.xe s
theorem Vals.one:∀{x:V}{us:List Value},Vals [x] us->∃u,us=[u]/\RelV x u
 |_,_,.cons r .nil=>⟨_,rfl,r⟩
theorem Vals.zero:∀{us:List Value},Vals [] us->us=[]
 |_,.nil=>rfl
theorem Vals.dropLast {xs:List V}{us:List Value}(h:Vals xs us):Vals xs.dropLast us.dropLast:=by
 induction h with
 |nil=>exact .nil
 |cons r t ih=>
  cases t with
  |nil=>exact .nil
  |cons q t'=>exact .cons r ih
theorem Vals.reverse {xs:List V}{us:List Value}(h:Vals xs us):Vals xs.reverse us.reverse:=by
 induction h with
 |nil=>exact .nil
 |cons r t ih=>rw[reverse_cons,reverse_cons];exact Vals.append ih (.cons r .nil)
theorem Vals.rep {xs:List V}{us:List Value}(h:Vals xs us):∀k:Nat,Vals (replicate k xs).flatten (replicate k us).flatten
 |0=>.nil
 |k+1=>by
  rw[replicate_succ,replicate_succ,flatten_cons,flatten_cons]
  exact Vals.append h (Vals.rep h k)
theorem CO{α:Type}(l:List α):l.eraseIdx (l.length-1)=l.dropLast:=by
 induction l with
 |nil=>rfl
 |cons a r ih=>
  cases r with
  |nil=>rfl
  |cons b r=>
   have e:(a::b::r).length-1=((b::r).length-1)+1:=by
    have h1:(a::b::r).length=r.length+2:=rfl
    have h2:(b::r).length=r.length+1:=rfl
    omega
   rw[e,List.eraseIdx_cons_succ,ih]
   all_goals rfl
theorem foldl_rep(its:List Value):∀(k:Nat)(acc:List Value),
  foldl (fun x1 x2=>x1++x2) acc.toArray (replicate k its.toArray)=(acc++(replicate k its).flatten).toArray
 |0,acc=>by simp
 |k+1,acc=>by
  have e:acc.toArray++its.toArray=(acc++its).toArray:=by simp
  have e2:(acc++its)++(replicate k its).flatten=acc++(replicate (k+1) its).flatten:=by
   rw[replicate_succ,flatten_cons,List.append_assoc]
  rw[<-e2,<-foldl_rep its k (acc++its),<-e,replicate_succ,foldl_cons]
section
variable{X:Cx}{pins:List (Addr×Obj)}{σ:St}{H:Hp}{s:Shared}{l b:Addr}{xs ys zs:List V}
theorem Inv.L7 {its its':List Value}{n:Nat}{f:Array Value->Array Value}{t':Nat}(I:Inv X pins σ H s)(hH:H l=some (.lst xs))
  (e:s.heap.get? l=some {cls:=.type "list",data:=.seq its.toArray n})(hf:f its.toArray=its'.toArray)(hv:Vals ys its')(hz:ys.length<=sizeLine):
  Inv X pins σ (upd H l (.lst ys)) {s with heap:=s.heap.update l (Obj.mapSeq f),toks:=t'}:=by
 have q:=PySem.IsL.update e f
 rw[hf]at q
 refine I.write (x:=l) (e:=l) (by rw[hH];exact trivial) (.inl rfl) (fun b' u hb hu=>(Heap.get?_update_other s.heap (Obj.mapSeq f) (Ne.symm hb)).trans hu) ⟨_,q⟩ ?_
 exact⟨hz,its',_,hv,q⟩
theorem Inv.Vk {its:List Value}{t':Nat}(I:Inv X pins σ H s)(hv:Vals ys its)(hz:ys.length<=sizeLine):
  Inv X pins σ (upd H s.heap.objs.size (.lst ys)) {s with heap:=s.heap.push {cls:=.type "list",data:=.seq its.toArray},toks:=t'}:=
 I.laid (fun _ _ q=>Heap.get?_push_of_some _ q) (Nat.le_refl _) ⟨hz,its,0,hv,Heap.get?_push_size _ rfl⟩
theorem Inv.fresh (I:Inv X pins σ H s):H s.heap.objs.size=none:=I.hok.fresh (Nat.le_refl _)
theorem Inv.Gg (I:Inv X pins σ H s)(hH:H l=some (.lst xs)):xs.length<=sizeLine/\∃(its:List Value)(n:Nat),Vals xs its/\xs.length=its.length/\s.heap.get? l=some {cls:=.type "list",data:=.seq its.toArray n}:=by
 obtain⟨z,its,n,r,e⟩:=I.hok l _ hH
 exact⟨z,its,n,r,r.length,e⟩
theorem AK{n:Nat}(h:n<=sizeLine):Builtin.List.listTooLong n=false:=by
 unfold Builtin.List.listTooLong
 exact decide_eq_false (by omega)
end
section
variable{X:Cx}
def L8:V->List V->Hp->VK->Prop:=fun x vs H Q=>∃l xs y,x=.ref l/\vs=[y]/\H l=some (.lst xs)/\xs.length<sizeLine/\Q .non (upd H l (.lst (xs++[y])))
theorem fy:XR X "list.append" L8:=by
 intro pins s σ H x vs v us Q I rx rv h
 obtain⟨l,xs,y,rfl,rfl,hH,hz,q⟩:=h
 cases rx
 obtain⟨u,rfl,ru⟩:=rv.one
 obtain⟨z,its,n,r,hl,e⟩:=I.Gg hH
 refine call_meets F.slot_list_append ⟨_,e,rfl⟩ F.entry_list_append (F.args_list_append_2 _ _) (PySem.list_append l its.toArray n u (by rw[size_toArray];omega)) ⟨e,?_⟩
 refine⟨.non,_,I.L7 (its':=its++[u]) hH e (by simp) (r.append (.cons ru .nil)) ?_,rfl,q⟩
 rw[length_append,length_singleton]
 omega
def L9:V->List V->Hp->VK->Prop:=fun x vs H Q=>∃l b xs zs,x=.ref l/\vs=[.ref b]/\H l=some (.lst xs)/\H b=some (.lst zs)/\xs.length+zs.length<=sizeLine/\Q .non (upd H l (.lst (xs++zs)))
theorem Gi:XR X "list.extend" L9:=by
 intro pins s σ H x vs v us Q I rx rv h
 obtain⟨l,b,xs,zs,rfl,rfl,hH,hB,hz,q⟩:=h
 cases rx
 obtain⟨u,rfl,ru⟩:=rv.one
 cases ru
 obtain⟨z,its,n,r,hl,e⟩:=I.Gg hH
 obtain⟨z2,its2,n2,r2,hl2,e2⟩:=I.Gg hB
 have hsz:its.toArray.size+its2.toArray.size<=sizeLine:=by rw[size_toArray,size_toArray];omega
 have H0:¬(!its.toArray.isEmpty&&Builtin.List.listTooLong (its.toArray.size+its2.toArray.size))=true:=by
  rw[AK hsz,Bool.and_false]
  exact Bool.false_ne_true
 refine call_meets F.slot_list_extend ⟨_,e,rfl⟩ F.entry_list_extend (F.args_list_extend_2 _ _)
  (AutoSeq1.list_extend_list_list_0 l its.toArray n b its2.toArray n2 H0 (by rw[size_toArray];omega) (by omega)) ⟨e,e2,?_⟩
 refine⟨.non,_,I.L7 (its':=its++its2) hH e (by simp) (r.append r2) ?_,rfl,q⟩
 rw[length_append]
 omega
def Zb:V->List V->Hp->VK->Prop:=fun x vs H Q=>∃l xs y,x=.ref l/\vs=[]/\H l=some (.lst xs)/\xs[xs.length-1]?=some y/\Q y (upd H l (.lst xs.dropLast))
theorem Ia:XR X "list.pop" Zb:=by
 intro pins s σ H x vs v us Q I rx rv h
 obtain⟨l,xs,y,rfl,rfl,hH,hy,q⟩:=h
 cases rx
 have Zc:=rv.zero
 subst Zc
 obtain⟨z,its,n,r,hl,e⟩:=I.Gg hH
 obtain⟨u,hu,ru⟩:=r.get hy
 have Ua:its.toArray[its.toArray.size-1]?=some u:=by
  show its.toArray[its.length-1]?=some u
  rw[<-Array.getElem?_toList,<-hl]
  exact hu
 refine call_meets F.slot_list_pop ⟨_,e,rfl⟩ F.entry_list_pop (F.args_list_pop_1 _) (MeetsSeq.list_pop_last l its.toArray n u Ua (by rw[size_toArray];omega)) ⟨e,?_⟩
 refine⟨y,_,I.L7 (its':=its.dropLast) hH e ?_ r.dropLast ?_,ru,q⟩
 ·show its.toArray.eraseIdxIfInBounds (its.toArray.size-1)=its.dropLast.toArray
  rw[size_toArray,List.eraseIdxIfInBounds_toArray,CO]
 ·rw[List.length_dropLast]
  omega
def Ib:V->List V->Hp->VK->Prop:=fun x vs H Q=>∃l xs,x=.ref l/\vs=[]/\H l=some (.lst xs)/\Q .non (upd H l (.lst xs.reverse))
theorem CP:XR X "list.reverse" Ib:=by
 intro pins s σ H x vs v us Q I rx rv h
 obtain⟨l,xs,rfl,rfl,hH,q⟩:=h
 cases rx
 have Zc:=rv.zero
 subst Zc
 obtain⟨z,its,n,r,hl,e⟩:=I.Gg hH
 refine call_meets F.slot_list_reverse ⟨_,e,rfl⟩ F.entry_list_reverse (F.args_list_reverse_1 _) (AutoSeq1.list_reverse_list_0 l its.toArray n (by rw[size_toArray];omega)) ⟨e,?_⟩
 refine⟨.non,_,I.L7 (its':=its.reverse) hH e (by simp) r.reverse ?_,rfl,q⟩
 rw[length_reverse]
 omega
def Zd:R2:=fun x y H Q=>∃l k xs,x=.ref l/\y=.int k/\H l=some (.lst xs)/\ -(2^63)<=k/\k<2^63/\xs.length*k.toNat<=sizeLine/\
 ∀p,H p=none->Q (.ref p) (upd H p (.lst (replicate k.toNat xs).flatten))
theorem len_rep{α:Type}(xs:List α)(k:Nat):(replicate k xs).flatten.length=k*xs.length:=by
 induction k with
 |zero=>simp
 |succ k ih=>rw[replicate_succ,flatten_cons,length_append,ih,succ_mul,Nat.add_comm]
theorem Ic:tQ X (binaryOp .Mult) Zd:=by
 intro pins s σ H x y v u Q I rx ry h
 obtain⟨l,k,xs,rfl,rfl,hH,h1,h2,hz,q⟩:=h
 cases rx
 obtain⟨t,rfl⟩:=ry
 obtain⟨z,its,n,r,hl,e⟩:=I.Gg hH
 have hlen:its.toArray.size*k.toNat<=sizeLine:=by rw[size_toArray,<-hl];exact hz
 have Ze:¬its.toArray.size*k.toNat>(2^63-1)/8:=by
  have:(sizeLine:Nat)<=(2^63-1)/8:=by decide
  omega
 have hfit:¬(!Builtin.List.listFitsIndex k)=true:=by
  rw[fitsIndex_both h1 h2]
  exact Bool.false_ne_true
 have H0:¬Builtin.List.listTooLong (its.toArray.size*k.toNat)=true:=by
  rw[AK hlen]
  exact Bool.false_ne_true
 have hnew:foldl (fun x1 x2=>x1++x2) #[] (replicate (if its.toArray.isEmpty=true then 0 else k.toNat) its.toArray)=(replicate k.toNat its).flatten.toArray:=by
  have f0:∀m:Nat,foldl (fun x1 x2=>x1++x2) #[] (replicate m its.toArray)=(replicate m its).flatten.toArray:=fun m=>by
   have:=foldl_rep its m []
   rw[nil_append]at this
   exact this
  rw[f0]
  cases its with
  |nil=>simp
  |cons a r'=>rw[if_neg (by simp)]
 refine wpAny_binaryOp_repeat_ref (T:="list") (U:="int") (by decide) ⟨_,e,rfl⟩ (fun s'=>typeIs_int s' k t) noFill_list_mul F.fills_int_mul F.slot_int_rmul repeat_list F.slot_int_index.lookup
  (call_meets F.slot_int_rmul (typeIs_int s k t) F.entry_int_rmul (F.args_int_rmul_2 _ _) (int___rmul___int_list k t l its.toArray n)
   ⟨e,rfl,⟨_,e,rfl⟩,call_meets F.slot_list_mul ⟨_,e,rfl⟩ F.entry_list_mul (F.args_list_mul_2 _ _) (AutoListH.list___mul___list_int_3 l its.toArray n k t hfit Ze H0) ⟨e,?_⟩⟩)
 rw[hnew]
 exact⟨.ref _,_,I.Vk (t':=s.toks) (r.rep k.toNat) (by rw[len_rep,Nat.mul_comm];exact hz),rfl,q _ I.fresh⟩
end
section
variable{prog:Program}{w:World}{A:Around}{E:Value->Shared->Prop}{s:Shared}
set_option maxRecDepth 100000 in
end
end L2
namespace Att
open PySem PySem.W PySem.Calls PyProof.Rows
theorem vp{P:Params}{h:Heap}:∀(ns:List Int)(vs:List Value),WellAll P h vs (ns.map WData.int)->IntsAre vs ns:=by
 intro ns
 induction ns with
 |nil=>
  intro vs w
  rw[map_nil]at w
  cases w
  exact .nil
 |cons n ns ih=>
  intro vs w
  rw[map_cons]at w
  cases w with
  |cons a b=>
   cases a
   exact .cons _ _ (ih _ b)
theorem Gj{l:OpenLaw}{n:Nat}(hn:l.most=some n){P:Params}{h:Heap}{args:List WData}{vals:List Value}
  (hpre:l.row.toRowW.claim.pre args=true)(Zf:WellAll P h vals args):
  ∃a vs ns,vals=[Value.ref a]/\args=[WData.list (ns.map WData.int)]/\h.get? a=some {cls:=.type "list",data:=.seq vs.toArray}/\IntsAre vs ns/\ns.length<=n:=by
 have hsh:WShape.hasAll [] args [.list .int]=true:=(pre_splitW hpre).1
 have hc:l.pre.holds [] {args:=args}=true:=(pre_splitW hpre).2
 obtain⟨d,r,rfl,h1,h2⟩:=hasAllW_cons hsh
 obtain rfl:=hasAllW_nil h2
 obtain⟨xs,rfl,h3⟩:=hasW_list h1
 obtain⟨ns,rfl⟩:=items_int h3
 have hlen:ns.length<=n:=by
  unfold OpenLaw.pre at hc
  have h4:(WTm.not (.lt (.lit (.int (n:Int))) (.len (.arg 0)))).holds [] {args:=[.list (ns.map .int)]}=true:=by
   have h4:=(holds_andW hc).1
   rw[hn]at h4
   exact h4
  have h5:=condW_of h4 (w_not (w_lt w_lit (w_len_list (w_arg rfl))))
  rw[length_map]at h5
  refine Nat.le_of_not_lt fun q=>?_
  have q':(n:Int)<((ns.length:Nat):Int):=by omega
  first
   |(rw[decide_eq_true q']at h5;exact absurd h5 (by decide))
   |(simp at h5;omega)
 cases Zf with
 |cons w1 w2=>
  cases w2
  cases w1 with
  |list ho hall=>exact⟨_,_,ns,rfl,rfl,ho,vp ns _ hall,hlen⟩
theorem Gk(l:OpenLaw)(args:List WData):l.row.toRowW.claim.post args (.bool true) args=true:=
 postW_of (r:=l.row.toRowW) (X:=(true==true))
  (show WShape.has [] (.bool true) .bool=true by first|rfl|decide|simp[WShape.has,WShape.arms,WShape.armsAll])
  (show(WTm.eq .res (.lit (.bool true))).value [] {args:=args,res:=some (.bool true),after:=args}=some (.bool (true==true))from w_eq_bool (w_res rfl) w_lit) rfl
theorem AL{l:OpenLaw}{n:Nat}{q:Program}{loose:List Str}{XP:(Str->Option Value)->Heap->Prop}{YP:World->Heap->Prop}{d:DefRec}
  (hn:l.most=some n)(Vm:d.params.defaults=[])
  (call:∀(w:World)(s₀ s₁:Shared)(mg mb:Str->Option Value)(fa:Addr)(o:Obj)(pm cd doc:Value)(a:Addr)(vs:List Value)(ns:List Int),
   Ground q loose [] XP w s₀ mg mb s₁.heap->YP w s₁.heap->
   s₁.heap.get? fa=some o->o.data=.func (docDef d.name d.params d.body d.scope pm cd doc)->s₁.heap.CodeRec cd d.name->mg d.name=some (.ref fa)->
   s₁.heap.get? a=some {cls:=.type "list",data:=.seq vs.toArray}->IntsAre vs ns->ns.length<=n->s₁.gens=#[]->
   codeAny (model l.prog w) callerA (.call (.ref fa) ⟨[.ref a],[]⟩) (fun r s'=>r=.ok (.ret (.bool true))/\OldK s₁.heap s'.heap/\s'.os=s₁.os/\AllBare s'.gens) s₁):
  WalkO q loose XP YP l.row.toRowW d [] (fun f vs=>PySem.call f vs):=by
 intro w s₀ s₁ mg mb G Y fa o pm cd doc dV kV ho hd hcd hD hmg hg args vals as hpre hlay hrd Zf hlo
 obtain rfl:dV=.none:=Dflts.none hD Vm
 obtain rfl:kV=.none:=Dflts.noKw hD
 obtain⟨a,vs,ns,rfl,rfl,hobj,hints,hlen⟩:=Gj hn hpre Zf
 refine enter_call (codeAny_mono (call w s₀ s₁ mg mb fa o pm cd doc a vs ns G Y ho (fd_plain hd) hcd hmg hobj hints hlen hg) fun r s' hq=>?_)
 obtain⟨rfl,h2,h3,h4⟩:=hq
 exact⟨.inl ⟨.bool true,.bool true,[],rfl,fun _=>rfl,.bool true,Gk l _,fun _=>⟨Pairwise.nil,fun _ hm=>(nomatch hm)⟩⟩,h2,h3,h4⟩
section
variable{prog:Program}{w:World}{A:Around}{E:Value->Shared->Prop}{s:Shared}{K:Frag}
def ledger(h:Heap)(L d:Addr):List (Addr×Obj):=(range h.objs.size).filterMap fun a=>if a=L\/a=d then none else(h.get? a).map fun o=>(a,o)
end
end Att
namespace L2
open PySem PySem.Spec PyProof.Rows
theorem tW:∀{vs:List Value}{ns:List Int},IntsAre vs ns->Vals (ns.map V.int) vs
 |_,_,.nil=>.nil
 |_,_,.cons n t h=>.cons ⟨t,rfl⟩ (tW h)
def QS(H:Hp):Prop:=∀b,H b=none\/∃o xs,H b=some (.xZ o (.lst xs))
theorem Ie{P:Program}{w:World}{K:PySem.W.Frag}{mg mb:Str->Option Value}{CX:Hh}{k:Nat}{fa a:Addr}{fd:FuncData}{x:Str}{sp:Sp}{s₁:Shared}{vs:List Value}{ns:List Int}
  (KX:K.In s₁.heap)(hns:s₁.heap.Ns mainGlobals mg)(hb:s₁.heap.Ns builtinsNs mb)(Vn:∀x:Str,x≠"__name__"->mb x=bootBuiltins x)(hlim:s₁.heap.NoLimit)(hg:s₁.gens=#[])
  (ha:s₁.heap.get? a=some {cls:=.type "list",data:=.seq vs.toArray})(hi:IntsAre vs ns)(hl:ns.length<=sizeLine)(hr:bu k callerA)
  (F:∀base:Heap,K.In base->base.Ns mainGlobals mg->cu P w K mg base CX k fa fd [x] sp)(hbind:∀(s:Shared)(u:Value),BindsTo s fd ⟨[u],[]⟩ [(x,u)])
  (x8:∀H:Hp,QS H->ck K H a (ns.map V.int)->sp [.ref a] H (fun v _=>v=.bl true) fun _ _ _=>False)
  (Zg:∀H e s',CX [] H s₁ (fun _ _ _=>False) e s'->False):
  codeAny (model P w) callerA (.call (.ref fa) ⟨[.ref a],[]⟩) (fun r s'=>r=.ok (.ret (.bool true))/\OldK s₁.heap s'.heap/\s'.os=s₁.os/\AllBare s'.gens) s₁:=by
 have rv:=tW hi
 have Zh:=hi.length
 have core:∀H:Hp,QS H->ck K H a (ns.map V.int)->qy P w H s₁.heap->(∀b,H b≠none->b=a)->(H a≠none->K.lookup a=none)->
   codeAny (model P w) callerA (.call (.ref fa) ⟨[.ref a],[]⟩) (fun r s'=>r=.ok (.ret (.bool true))/\OldK s₁.heap s'.heap/\s'.os=s₁.os/\AllBare s'.gens) s₁:=by
  intro H hO hS hok hA hK
  have D4:∀{b:Addr}{o:Obj},s₁.heap.get? b=some o->H b=none->(zf s₁.heap H).get? b=some o:=fun e n=>HA e n
  have Ve:∀{b:Addr}{o:Obj}{es:Array DictEntry}{ep:Nat},s₁.heap.get? b=some o->o.data=.dict es ep->H b=none:=fun{b o es ep} e d=>by
   cases q:H b with
   |none=>rfl
   |some u=>
    have e':b=a:=hA b (by rw[q];simp)
    subst e'
    rw[ha]at e;cases e
    have d':Data.seq vs.toArray _=Data.dict es ep:=d
    cases d'
  have XS:∀{b:Addr}{m:Str->Option Value},s₁.heap.Ns b m->(zf s₁.heap H).Ns b m:=fun{b m}⟨o,es,ep,e,d,r⟩=>⟨o,es,ep,D4 e (Ve e d),d,r⟩
  have hKb:K.In (zf s₁.heap H):=fun b o e=>D4 (KX b o e) (by
   cases q:H b with
   |none=>rfl
   |some u=>
    have e':b=a:=hA b (by rw[q];simp)
    subst e'
    rw[hK (by rw[q];simp)]at e;cases e)
  have hM:Mod K mg (zf s₁.heap H):=⟨hKb,XS hns,⟨mb,XS hb,Vn⟩,let⟨mc,h1,h2⟩:=hlim;⟨mc,XS h1,h2⟩⟩
  have e0:CL P w K mg (zf s₁.heap H) callerA [] s₁ H:=⟨rfl,hM,fun b o e=>LG e,le_of_eq (F0 _ _),trivial,fun b hb=>absurd (show b∈([]:List Addr)from hb) (by simp),hok,.of_eq hg⟩
  refine codeAny_mono ((F _ hKb (XS hns)).run callerA [] s₁ H ⟨[.ref a],[]⟩ [.ref a] [.ref a] _ _ hr e0 (hbind s₁ (.ref a)) (.cons rfl .nil) (x8 H hO hS)) fun r s' h=>?_
  cases r with
  |error e=>exact(Zg H e s' h).elim
  |ok fl=>
   cases fl with
   |next=>exact False.elim h
   |brk=>exact False.elim h
   |cont=>exact False.elim h
   |ret u=>
    obtain⟨v,H',os,bare,un,Zi,r',q⟩:=h
    have q':v=.bl true:=q
    subst q'
    obtain rfl:u=Value.bool true:=r'
    refine⟨rfl,OldK.of_keep fun b o e=>?_,os,bare⟩
    cases q:H b with
    |none=>exact un.keep b o e q (by intro z;exact absurd (show b∈([]:List Addr)from z) (by simp)) (by simp)
    |some u=>
     rcases hO b with z|⟨ob,xs,z⟩
     ·rw[q]at z;cases z
     ·have z2:=un.ze b ob _ z
      obtain⟨e1,_⟩:=hok b _ z
      obtain⟨e2,_⟩:=Zi b _ z2
      rw[e]at e1;cases e1
      exact e2
 cases hk:K.lookup a with
 |some o=>
  have e:=KX a o hk
  rw[ha]at e
  cases e
  refine core (fun _=>none) (fun _=>.inl rfl) (.inr ⟨_,vs.toArray,_,hk,rfl,rfl,rfl,by rw[size_toArray,Zh];exact hl,by simpa using rv⟩) (fun b u z=>by have z':(none:Option HO)=some u:=z;cases z') (fun b z=>absurd rfl z) fun z=>absurd rfl z
 |none=>
  refine core (fun b=>if b=a then some (.xZ {cls:=.type "list",data:=.seq vs.toArray} (.lst (ns.map V.int)))else none) (fun b=>?_) (.inl (.inr ⟨{cls:=.type "list",data:=.seq vs.toArray},if_pos rfl⟩)) (fun b u z=>?_) (fun b z=>?_) fun _=>hk
  ·by_cases hb:b=a
   ·exact .inr ⟨_,_,if_pos hb⟩
   ·exact .inl (if_neg hb)
  ·by_cases hb:b=a
   ·have z':=(if_pos hb).symm.trans z
    cases z'
    subst hb
    exact⟨ha,by rw[length_map];exact hl,vs,_,rv,ha⟩
   ·have z':=(if_neg hb).symm.trans z
    cases z'
  ·by_cases hb:b=a
   ·exact hb
   ·exact absurd (if_neg hb) z
end L2
namespace L2
open PySem PySem.Spec PyProof.Rows
abbrev KOf{K:PySem.W.Frag}{h:Heap}(_:K.In h):PySem.W.Frag:=K
theorem Mb{l:PySem.W.OpenLaw}{n k:Nat}{q:Program}{loose:List Str}{XP:(Str->Option Value)->Heap->Prop}{YP:World->Heap->Prop}{d:DefRec}{K:Params->PySem.W.Frag}{CX:World->Hh}{sp:World->Sp}{x:Str}
  (hn:l.most=some n)(hn2:n<=sizeLine)(Vm:d.params.defaults=[])(hr:bu k callerA)
  (hY:∀(w:World)(h:Heap),YP w h->(K w.params).In h)
  (F:∀(w:World)(mg:Str->Option Value)(fa:Addr)(h:Heap),(K w.params).In h->h.Ns mainGlobals mg->mg d.name=some (.ref fa)->
   ∃fd:FuncData,(∀(s:Shared)(u:Value),BindsTo s fd ⟨[u],[]⟩ [(x,u)])/\
    ∀base:Heap,(K w.params).In base->base.Ns mainGlobals mg->cu l.prog w (K w.params) mg base (CX w) k fa fd [x] (sp w))
  (x8:∀(w:World)(H:Hp)(a:Addr)(ns:List Int),ns.length<=n->QS H->ck (K w.params) H a (ns.map V.int)->sp w [.ref a] H (fun v _=>v=.bl true) fun _ _ _=>False)
  (Zg:∀(w:World)(H:Hp)(s:Shared)(e:Value)(s':Shared),CX w [] H s (fun _ _ _=>False) e s'->False):
  PySem.W.WalkO q loose XP YP l.row.toRowW d [] (fun f vs=>PySem.call f vs):=by
 refine Att.AL hn Vm fun w s₀ s₁ mg mb fa o pm cd doc a vs ns G Y ho hd hcd hmg hobj hints hlen hg=>?_
 have KX:=hY w _ Y
 obtain⟨fd,hb,hF⟩:=F w mg fa _ KX G.T.g hmg
 exact Ie KX G.T.g G.T.b G.T.builtins G.T.nolimit hg hobj hints (le_trans hlen hn2) hr hF hb (fun H hO hS=>x8 w H a ns hlen hO hS) fun H e s'=>Zg w H s₁ e s'
end L2
namespace L2
open PySem PySem.Spec PyProof.Rows
def inClass(s:Stmt)(j:Nat):Stmt:=match s with
 |.ClassDef _ _ _ body _ _ _ _ _ _ _=>body.getD j (.Pass ⟨0,0,0,0⟩)
 |_=>.Pass ⟨0,0,0,0⟩
def dY(s:Stmt):Arguments:=match s with
 |.FunctionDef _ a _ _ _ _ _ _ _ _=>a
 |_=>{posonlyargs:=[],args:=[],vararg:=none,kwonlyargs:=[],kw_defaults:=[],kwarg:=none,defaults:=[]}
def bH(s:Stmt):List Stmt:=match s with
 |.FunctionDef _ _ b _ _ _ _ _ _ _=>b
 |_=>[]
def ae(s:Stmt):Scope:=match s with
 |.FunctionDef _ _ _ _ _ _ sc _ _ _=>sc
 |_=>{kind:=.function,names:=[],isGenerator:=false,isCoroutine:=false}
abbrev lB:Hh:=fun _ _ _ _ _ _=>False
abbrev E0:XK:=fun _ _ _=>False
theorem oE{X:Cx}:Passes lB X E0:=fun _ _ _ _ _ _ _ h=>h.elim
structure AM(K:PySem.W.Frag)(x qual:Str)(st:Stmt)(f:Addr)(fd:FuncData):Prop where
 ex:∃(oc:Value)(od:Option Addr)(kV doc pm:Value)(an:Option Addr)(cdv ct:Value)(Hj:Array (Option Value)),
  fd=PySem.W.fnOf x qual (dY st) (bH st) (ae st) .none kV doc pm an cdv ct/\K.lookup f=some ⟨oc,od,.func fd,Hj⟩/\codeIn K cdv qual=true
 kp:keepIn K (.ref f)=true
section
variable{P:Program}{w:World}{K:PySem.W.Frag}{mg:Str->Option Value}{base:Heap}
theorem AM.ok {x qual:Str}{st:Stmt}{f:Addr}{fd:FuncData}{N ps:List Str}{k:Nat}{sp:Sp}(F:AM K x qual st f fd)(S:az N ps (ae st))(len:∀vs H Q E,sp vs H Q E->vs.length=ps.length)
  (hbody:∀(cdv:Value)(A:Around)(outer:List Env)(s:Shared)(H:Hp)(vs:List V)(Q:VK)(E:XK),bu k (A.deeper (envOfC qual (ae st) s.heap.objs.size f cdv))->sp vs H Q E->
   ∃t,qD (qV lB P w K mg base N qual (ae st) f cdv A outer s H E).Hg (bH st) t/\t {nx:=fun _ H'=>Q .non H',rt:=Q} (start N vs) H):cu P w K mg base lB (k+1) f fd ps sp:=by
 obtain⟨oc,od,kV,doc,pm,an,cdv,ct,Hj,rfl,lk,hcd⟩:=F.ex
 refine Vf lk hcd S len fun A outer s H vs Q E hr x8=>?_
 obtain⟨t,h,q⟩:=hbody cdv A outer s H vs Q E hr x8
 exact⟨t,h.Hg,q⟩
theorem AM.binds {x qual:Str}{st:Stmt}{f:Addr}{fd:FuncData}{ps:List Str}(F:AM K x qual st f fd)
  (h:∀(kV doc pm:Value)(an:Option Addr)(cdv ct:Value)(us:List Value),us.length=ps.length->bindArgs (PySem.W.fnOf x qual (dY st) (bH st) (ae st) .none kV doc pm an cdv ct) ⟨us,[]⟩=pure (ps.zip us)):Binds K fd ps []:=by
 obtain⟨oc,od,kV,doc,pm,an,cdv,ct,Hj,rfl,lk,hcd⟩:=F.ex
 exact .all (h kV doc pm an cdv ct)
theorem CQ{x qual:Str}{st:Stmt}{f:Addr}{oc:Value}{od an:Option Addr}{Hj:Array (Option Value)}{kV doc pm cdv ct:Value}(l:K.lookup f=some ⟨oc,od,.func (PySem.W.fnOf x qual (dY st) (bH st) (ae st) .none kV doc pm an cdv ct),Hj⟩)
  (c:codeIn K cdv qual=true)(k:keepIn K (.ref f)=true):AM K x qual st f (PySem.W.fnOf x qual (dY st) (bH st) (ae st) .none kV doc pm an cdv ct):=⟨⟨oc,od,kV,doc,pm,an,cdv,ct,Hj,rfl,l,c⟩,k⟩
end
theorem rC{A:Around}{k:Nat}(hr:bu k A):A.units+1<cLine:=Nat.lt_of_le_of_lt (Nat.add_le_add_left (by decide:1<=64) _) hr.units
section
variable{X:Cx}
theorem pv(i:Nat){x:Str}{pos:Pos}(hN:X.N[i]?=some x:=by rfl)(hv:wz X.env.scope x:=by first|exact Or.inl rfl|exact Or.inr (Or.inl rfl)|exact Or.inr (Or.inr rfl))(hd:(x==("__debug__":Str))=false:=by decide)
  (hcd:(x==("__classdict__":Str))=false:=by decide):PE X (.Name x pos) (LK i):=gW hN hv hd hcd
end
theorem tX{A B:Prop}(h:B):if false=true then A else B:=by
 rw[if_neg Bool.false_ne_true]
 exact h
theorem vq{A B:Prop}(h:A):if true=true then A else B:=by
 rw[if_pos rfl]
 exact h
def aH(H H':Hp):Prop:=∀b o,H b=some o->H' b=some o
theorem aH.refl (H:Hp):aH H H:=fun _ _ h=>h
theorem aH.trans {H H1 H2:Hp}(a:aH H H1)(b:aH H1 H2):aH H H2:=fun c o h=>b c o (a c o h)
theorem aH.free {H H':Hp}(e:aH H H'){l:Addr}(h:H' l=Option.none):H l=Option.none:=by
 cases q:H l with
 |none=>rfl
 |some o=>
  rw[e l o q]at h
  cases h
theorem aH.seq {K:PySem.W.Frag}{H H':Hp}{a:Addr}{xs:List V}(e:aH H H')(h:ck K H a xs):ck K H' a xs:=by
 rcases h with(h|⟨o,h⟩)|h
 ·exact .inl (.inl (e _ _ h))
 ·exact .inl (.inr ⟨o,e _ _ h⟩)
 ·exact .inr h
end L2
set_option maxHeartbeats 4000000
namespace L2
open PySem PySem.Spec PyProof.Rows
section
variable{κ:Type}[DecidableEq κ]
def cZ(kvs:List (κ×V))(k:κ):Option V:=(kvs.find? fun kv=>decide (kv.1=k)).map (·.2)
def putK(kvs:List (κ×V))(k:κ)(v:V):List (κ×V):=
 if(kvs.any fun kv=>decide (kv.1=k))=true then kvs.map (fun kv=>if kv.1=k then(kv.1,v)else kv)else kvs++[(k,v)]
def acK(kvs:List (κ×V))(k:κ):List (κ×V):=kvs.filter fun kv=>decide (kv.1≠k)
theorem eR{p:κ×V}{r:List (κ×V)}{k:κ}(e:p.1=k):cZ (p::r) k=some p.2:=by simp[cZ,find?_cons,e]
theorem eT{p:κ×V}{r:List (κ×V)}{k:κ}(e:¬p.1=k):cZ (p::r) k=cZ r k:=by simp[cZ,find?_cons,e]
theorem rD(k:κ):∀kvs:List (κ×V),(kvs.any fun kv=>decide (kv.1=k))=(cZ kvs k).isSome
 |[]=>rfl
 |p::r=>by
  rw[any_cons]
  by_cases e:p.1=k
  ·simp only [eR e,decide_eq_true e,Bool.true_or,Option.isSome_some]
  ·rw[eT e,decide_eq_false e,Bool.false_or];exact rD k r
theorem AO(k j:κ)(y:V):∀kvs:List (κ×V),cZ (kvs.map fun kv=>if kv.1=k then(kv.1,y)else kv) j=(cZ kvs j).map fun x=>if j=k then y else x
 |[]=>rfl
 |p::r=>by
  have ih:=AO k j y r
  rw[map_cons]
  by_cases h:p.1=k
  ·rw[if_pos h]
   by_cases e:p.1=j
   ·rw[eR (p:=(p.1,y)) e,eR e,map_some,if_pos (e.symm.trans h)]
   ·rw[eT (p:=(p.1,y)) e,eT e,ih]
  ·rw[if_neg h]
   by_cases e:p.1=j
   ·rw[eR (p:=p) e,eR e,map_some,if_neg (fun z=>h (e.trans z))]
   ·rw[eT (p:=p) e,eT e,ih]
theorem yD(k j:κ)(y:V):∀kvs:List (κ×V),cZ kvs k=none->cZ (kvs++[(k,y)]) j=if j=k then some y else cZ kvs j
 |[],_=>by
  by_cases e:k=j
  ·rw[if_pos e.symm];exact eR (p:=(k,y)) e
  ·rw[if_neg (fun z=>e z.symm)];exact eT (p:=(k,y)) e
 |p::r,hn=>by
  rw[cons_append]
  have hk:¬p.1=k:=fun z=>by rw[eR z]at hn;cases hn
  rw[eT hk]at hn
  have ih:=yD k j y r hn
  by_cases e:p.1=j
  ·rw[eR e,eR e,if_neg (fun z=>hk (e.trans z))]
  ·rw[eT e,eT e,ih]
theorem ko(kvs:List (κ×V))(k j:κ)(y:V):cZ (putK kvs k y) j=if j=k then some y else cZ kvs j:=by
 unfold putK
 by_cases a:(kvs.any fun kv=>decide (kv.1=k))=true
 ·rw[if_pos a,AO]
  rw[rD]at a
  by_cases e:j=k
  ·obtain⟨x,hx⟩:=Option.isSome_iff_exists.mp a
   rw[if_pos e,e,hx,map_some,if_pos rfl]
  ·rw[if_neg e]
   cases cZ kvs j with
   |none=>rfl
   |some x=>rw[map_some,if_neg e]
 ·rw[if_neg a]
  refine yD k j y kvs ?_
  rw[rD]at a
  cases q:cZ kvs k with
  |none=>rfl
  |some x=>rw[q]at a;exact(a rfl).elim
theorem gJ(kvs:List (κ×V))(k:κ)(v:V):(putK kvs k v).length<=kvs.length+1:=by
 unfold putK
 split
 ·rw[length_map];omega
 ·rw[length_append,length_cons,length_nil];omega
theorem oO.tY {o:Option V}{u:Option Value}(r:oO o u):o.isSome=u.isSome:=by
 cases o with
 |none=>cases u with
  |none=>rfl
  |some _=>exact(show False from r).elim
 |some _=>cases u with
  |none=>exact(show False from r).elim
  |some _=>rfl
theorem oO.getD {o:Option V}{u:Option Value}{d:V}{d':Value}(r:oO o u)(rd:RelV d d'):RelV (o.getD d) (u.getD d'):=by
 cases o with
 |none=>cases u with
  |none=>exact rd
  |some _=>exact(show False from r).elim
 |some _=>cases u with
  |none=>exact(show False from r).elim
  |some _=>exact r
theorem KV.val {kvs:List (κ×V)}{vs:List (κ×Value)}(r:KV kvs vs)(k:κ):oO (cZ kvs k) (valueAt vs k):=by
 unfold KV at r
 induction r with
 |nil=>exact True.intro
 | @cons p q ps qs h t ih=>
  obtain⟨h1,h2⟩:=h
  by_cases e:p.1=k
  ·have e':q.1=k:=h1.symm.trans e
   have b:valueAt (q::qs) k=some q.2:=by simp[valueAt,find?_cons,e']
   rw[eR e,b];exact h2
  ·have e':¬q.1=k:=fun z=>e (h1.trans z)
   have b:valueAt (q::qs) k=valueAt qs k:=by simp[valueAt,find?_cons,e']
   rw[eT e,b];exact ih
theorem KV.any {kvs:List (κ×V)}{vs:List (κ×Value)}(r:KV kvs vs)(k:κ):(kvs.any fun kv=>decide (kv.1=k))=vs.any fun kv=>decide (kv.1=k):=by
 unfold KV at r
 induction r with
 |nil=>rfl
 |cons h t ih=>rw[any_cons,any_cons,ih,h.1]
theorem KV.QT {kvs:List (κ×V)}{vs:List (κ×Value)}(r:KV kvs vs)(k:κ){y:V}{u:Value}(ry:RelV y u):
  KV (kvs.map fun kv=>if kv.1=k then(kv.1,y)else kv) (vs.map fun kv=>if kv.1=k then(kv.1,u)else kv):=by
 unfold KV at r⊢
 induction r with
 |nil=>exact .nil
 | @cons p q ps qs h t ih=>
  rw[map_cons,map_cons]
  refine .cons ?_ ih
  obtain⟨h1,h2⟩:=h
  by_cases e:p.1=k
  ·rw[if_pos e,if_pos (h1.symm.trans e)];exact⟨h1,ry⟩
  ·rw[if_neg e,if_neg (fun z=>e (h1.trans z))];exact⟨h1,h2⟩
theorem KV.put {kvs:List (κ×V)}{vs:List (κ×Value)}(r:KV kvs vs)(k:κ){y:V}{u:Value}(ry:RelV y u):KV (putK kvs k y) (stored vs k u):=by
 unfold putK stored
 rw[r.any k]
 by_cases e:(vs.any fun kv=>decide (kv.1=k))=true
 ·rw[if_pos e,if_pos e];exact r.QT k ry
 ·rw[if_neg e,if_neg e];exact Paired.snoc r ⟨rfl,ry⟩
theorem KV.length {kvs:List (κ×V)}{vs:List (κ×Value)}(r:KV kvs vs):kvs.length=vs.length:=Paired.length r
end
theorem AQ{P:Program}{w:World}{k:Key}{u:Value}(r:RelV (kV k) u):(cW P w).is k u=true:=by
 cases k with
 |inl i=>obtain⟨t,e⟩:=(show∃t,u=Value.int i t from r);subst e;exact AA P w i t
 |inr x=>obtain⟨t,e⟩:=(show∃t,u=Value.str x t from r);subst e;exact AB P w x t
theorem yE{P:Program}{w:World}:∀{ks:List Key}{us:List Value},Vals (ks.map kV) us->ItemsAre (cW P w) ks us
 |[],_,r=>by rw[map_nil]at r;cases r;exact .nil
 |k::ks,_,r=>by
  rw[map_cons]at r
  cases r with
  |cons h t=>exact .cons (AQ h) (yE t)
abbrev KT(H:Hp):List (List Key×V)->List (List Key×Addr×Value)->Prop:=Paired fun p q=>p.1=q.1/\H q.2.1=some (.tup (p.1.map kV))/\RelV p.2 q.2.2
theorem KT.val {H:Hp}{kvs:List (List Key×V)}{xs:List (List Key×Addr×Value)}(r:KT H kvs xs)(k:List Key):oO (cZ kvs k) ((atKey xs k).map (·.2)):=by
 induction r with
 |nil=>exact True.intro
 | @cons p q ps qs h t ih=>
  obtain⟨h1,_,h2⟩:=h
  by_cases e:p.1=k
  ·have e':q.1=k:=h1.symm.trans e
   have b:atKey (q::qs) k=some q.2:=by simp[atKey,find?_cons,e']
   rw[eR e,b];exact h2
  ·have e':¬q.1=k:=fun z=>e (h1.trans z)
   have b:atKey (q::qs) k=atKey qs k:=by simp[atKey,find?_cons,e']
   rw[eT e,b];exact ih
theorem KT.QT {H:Hp}{kvs:List (List Key×V)}{xs:List (List Key×Addr×Value)}(r:KT H kvs xs)(k:List Key){y:V}{u:Value}(ry:RelV y u):
  KT H (kvs.map fun kv=>if kv.1=k then(kv.1,y)else kv) (xs.map (putAt k u)):=by
 induction r with
 |nil=>exact .nil
 | @cons p q ps qs h t ih=>
  rw[map_cons,map_cons]
  refine .cons ?_ ih
  obtain⟨h1,h2,h3⟩:=h
  unfold putAt
  by_cases e:p.1=k
  ·rw[if_pos e,if_pos (h1.symm.trans e)];exact⟨h1,h2,ry⟩
  ·rw[if_neg e,if_neg (fun z=>e (h1.trans z))];exact⟨h1,h2,h3⟩
theorem KT.put {H:Hp}{kvs:List (List Key×V)}{xs:List (List Key×Addr×Value)}(r:KT H kvs xs)(k:List Key){b:Addr}{y:V}{u:Value}(hb:H b=some (.tup (k.map kV)))(ry:RelV y u):
  KT H (putK kvs k y) (storedH xs k b u):=by
 have e:(kvs.any fun kv=>decide (kv.1=k))=(atKey xs k).isSome:=by
  rw[rD,(r.val k).tY,isSome_map]
 unfold putK storedH
 rw[e]
 by_cases q:(atKey xs k).isSome=true
 ·rw[if_pos q,if_pos q];exact r.QT k ry
 ·rw[if_neg q,if_neg q];exact Paired.snoc r ⟨rfl,hb,ry⟩
theorem KT.keeps {H H':Hp}{kvs:List (List Key×V)}{xs:List (List Key×Addr×Value)}(r:KT H kvs xs)(ht:∀b ys,H b=some (.tup ys)->H' b=some (.tup ys)):KT H' kvs xs:=
 Paired.Qo r fun _ _ z=>⟨z.1,ht _ _ z.2.1,z.2.2⟩
section
variable{P:Program}{w:World}{H:Hp}{h:Heap}{a:Addr}
theorem N7{u:HO}(ok:qy P w H h)(e:Rd H a u):cT P w H h a u:=e.ok ok
theorem yF{kvs:List (Key×V)}(ok:qy P w H h)(e:Rd H a (.dK kvs)):kvs.length<=sizeLine/\(a==sysModules)=false/\∃vs,KV kvs vs/\h.DictOf (cW P w) a vs:=
 show cT P w H h a (.dK kvs)from N7 ok e
theorem Vo{kvs:List (Key×V)}(ok:qy P w H h)(e:H a=some (.dK kvs)):kvs.length<=sizeLine/\(a==sysModules)=false/\∃vs,KV kvs vs/\h.DictOf (cW P w) a vs:=yF ok (.inl e)
theorem wG{ks:List Key}(ok:qy P w H h)(e:H a=some (.tup (ks.map kV))):(tupleKind (cW P w)).is h ks a:=by
 obtain⟨_,its,r,o,h1,h2,n,h3⟩:=(show cT P w H h a (.tup (ks.map kV))from ok a _ e)
 exact⟨o,its.toArray,n,h1,h2,h3,by simpa using yE r⟩
theorem wH{kvs:List (List Key×V)}(ok:qy P w H h)(e:Rd H a (.dT kvs)):kvs.length<=sizeLine/\(a==sysModules)=false/\
  ∃xs,KT H kvs xs/\h.DictOfH (tupleKind (cW P w)) a xs:=by
 obtain⟨z,y,xs,r,o,es,ep,h1,h2,h3,h4,h5⟩:=(show cT P w H h a (.dT kvs)from N7 ok e)
 refine⟨z,y,xs,r,o,es,ep,h1,h2,h3,h4,fun x hx=>?_,h5⟩
 have all:∀{l:List (List Key×V)}{m:List (List Key×Addr×Value)},KT H l m->∀x∈m,(tupleKind (cW P w)).is h x.1 x.2.1:=by
  intro l m q
  induction q with
  |nil=>intro x hx;exact nomatch hx
  | @cons p q ps qs hq t ih=>
   intro x hx
   rcases mem_cons.mp hx with e|hx
   ·subst e
    exact wG ok (by rw[<-hq.1];exact hq.2.1)
   ·exact ih x hx
 exact all r x hx
theorem Vp{kvs:List (List Key×V)}(ok:qy P w H h)(e:H a=some (.dT kvs)):kvs.length<=sizeLine/\(a==sysModules)=false/\
  ∃xs,KT H kvs xs/\h.DictOfH (tupleKind (cW P w)) a xs:=wH ok (.inl e)
end
def nH(H:Hp)(a:Addr)(y:V)(r:Option V):Prop:=
 (∃kvs k,Rd H a (.dK kvs)/\y=kV k/\r=cZ kvs k)\/∃kvs k b,Rd H a (.dT kvs)/\y=.ref b/\H b=some (.tup (k.map kV))/\r=cZ kvs k
def AR(H:Hp)(a:Addr)(y v:V)(H':Hp):Prop:=
 (∃kvs k,H a=some (.dK kvs)/\y=kV k/\kvs.length<sizeLine/\H'=upd H a (.dK (putK kvs k v)))\/
 ∃kvs k b,H a=some (.dT kvs)/\y=.ref b/\H b=some (.tup (k.map kV))/\kvs.length<sizeLine/\H'=upd H a (.dT (putK kvs k v))
theorem nH.t {H:Hp}{a b:Addr}{kvs:List (List Key×V)}{k:List Key}(e:H a=some (.dT kvs))(eb:H b=some (.tup (k.map kV))):nH H a (.ref b) (cZ kvs k):=.inr ⟨kvs,k,b,.inl e,rfl,eb,rfl⟩
theorem AR.t {H:Hp}{a b:Addr}{kvs:List (List Key×V)}{k:List Key}{v:V}(e:H a=some (.dT kvs))(eb:H b=some (.tup (k.map kV)))(hl:kvs.length<sizeLine):
  AR H a (.ref b) v (upd H a (.dT (putK kvs k v))):=.inr ⟨kvs,k,b,e,rfl,eb,hl,rfl⟩
section
variable{X:Cx}{pins:List (Addr×Obj)}{σ:St}{H:Hp}{s:Shared}{a:Addr}{y v:V}{u r:Value}{o:Option V}{A:Around}{E:Value->Shared->Prop}
theorem Inv.big (I:Inv X pins σ H s):sysModules<s.heap.objs.size:=by
 have h:mainGlobals<s.heap.objs.size:=(I.mod.glob.keeps I.bk).lt
 exact lt_trans (by decide) h
theorem Gm{Q:Value->Shared->Prop}(hu:A.units+1<cLine)(I:Inv X pins σ H s)(g:nH H a y (some v))(ry:RelV y u)(h:∀w' s',Inv X pins σ H s'->RelV v w'->Q w' s'):
  wpAny (model X.prog X.w) A (getItem (.ref a) u) Q E s:=by
 rcases g with⟨kvs,k,e,ey,l⟩|⟨kvs,k,b,e,ey,eb,l⟩
 ·subst ey
  obtain⟨z,hd,vs,rel,dd⟩:=yF I.hok e
  obtain⟨w',hw,oY⟩:=oO.some_of (v:=v) (o:=valueAt vs k) (by rw[l];exact rel.val k)
  exact wpAny_getItem_of (AQ ry) dd.mapOf hw (h w' _ (I.tok _) oY)
 ·subst ey
  cases (show u=Value.ref b from ry)
  obtain⟨z,hd,xs,rel,dd⟩:=wH I.hok e
  obtain⟨w',hw,oY⟩:=oO.some_of (v:=v) (o:=(atKey xs k).map (·.2)) (by rw[l];exact rel.val k)
  obtain⟨p,hp,XT⟩:=Option.map_eq_some_iff.mp hw
  refine wpAny_getItem_heap (tupleKind_room_in1 hu) (wG I.hok eb) dd hp ?_
  rw[XT]
  exact h w' _ (I.tok _) oY
theorem Mc{Q:Value->Shared->Prop}(hu:A.units+1<cLine)(I:Inv X pins σ H s)(g:nH H a y o)(ry:RelV y u)(h:∀s',Inv X pins σ H s'->Q (.bool (!o.isSome)) s'):
  wpAny (model X.prog X.w) A (compareOp .NotIn u (.ref a)) Q E s:=by
 rcases g with⟨kvs,k,e,ey,l⟩|⟨kvs,k,b,e,ey,eb,l⟩
 ·subst ey
  obtain⟨z,hd,vs,rel,dd⟩:=yF I.hok e
  refine wpAny_notIn_of (AQ ry) hd dd.mapOf ?_
  rw[<-(rel.val k).tY,<-l]
  exact h _ (I.tok _)
 ·subst ey
  cases (show u=Value.ref b from ry)
  obtain⟨z,hd,xs,rel,dd⟩:=wH I.hok e
  refine wpAny_notIn_heap (tupleKind_room_in1 hu) (wG I.hok eb) hd dd ?_
  have q:=(rel.val k).tY
  rw[isSome_map]at q
  rw[<-q,<-l]
  exact h _ (I.tok _)
theorem D5{h':Heap}{t':Nat}{ob:HO}(I:Inv X pins σ H s)(mu:UG (H a))(hs:Heap.SameBut a s.heap h')(he:∃q,h'.get? a=some q)(new:cT X.prog X.w (upd H a ob) h' a ob):
  Inv X pins σ (upd H a ob) {s with heap:=h',toks:=t'}:=
 I.write (x:=a) (e:=a) mu (.inl rfl) (fun b q hb z=>(hs.2 b hb).trans z) he new
theorem QU{P:Program}{w:World}{H':Hp}{h':Heap}{kvs:List (Key×V)}{vs:List (Key×Value)}(z:kvs.length<=sizeLine)(hd:(a==sysModules)=false)(rel:KV kvs vs)(dd:h'.DictOf (cW P w) a vs):
  cT P w H' h' a (.dK kvs):=⟨z,hd,vs,rel,dd⟩
theorem Gn{H':Hp}{Q:Unit->Shared->Prop}(hu:A.units+1<cLine)(I:Inv X pins σ H s)(g:AR H a y v H')(ry:RelV y u)(rv:RelV v r)(h:∀s',Inv X pins σ H' s'->Q () s'):
  wpAny (model X.prog X.w) A (setItem (.ref a) u r) Q E s:=by
 rcases g with⟨kvs,k,e,ey,l,eH⟩|⟨kvs,k,b,e,ey,eb,l,eH⟩
 ·subst ey eH
  obtain⟨z,hd,vs,rel,dd⟩:=Vo I.hok e
  have hz:vs.length<=sizeLine:=by rw[<-rel.length];exact z
  have hl:(putK kvs k v).length<=sizeLine:=by have:=gJ kvs k v;omega
  refine wpAny_setItem_pairs (hsz:=hz) (AQ ry) dd fun h' XU hs=>h _ ?_
  have he:∃q,h'.get? a=some q:=let⟨q,_,_,hq,_⟩:=XU;⟨q,hq⟩
  exact D5 I (by rw[e];exact True.intro) hs he (QU hl hd (rel.put k rv) XU)
 ·subst ey eH
  cases (show u=Value.ref b from ry)
  obtain⟨z,hd,xs,rel,dd⟩:=Vp I.hok e
  have hz:xs.length<=sizeLine:=by rw[<-Paired.length rel];exact z
  have hl:(putK kvs k v).length<=sizeLine:=by have:=gJ kvs k v;omega
  refine wpAny_setItem_heap (hsz:=hz) (tupleKind_room_in1 hu) (wG I.hok eb) dd fun h' XU hs=>h _ ?_
  obtain⟨q,es,ep,hq,h2,h3,h4,_,h5⟩:=XU
  refine D5 I (by rw[e];exact True.intro) hs ⟨q,hq⟩ ⟨hl,hd,_,(rel.put k eb rv).keeps fun c ys ec=>?_,q,es,ep,hq,h2,h3,h4,h5⟩
  rw[ah (bO ec e (fun z=>nomatch z))]
  exact ec
end
def Vq(i:Expr):Prop:=∀ov iv,subscripted i false ov iv=operate [ov,iv] (getItem ov iv)
theorem Md{prog:Program}{w:World}{A:Around}{E:Value->Shared->Prop}{s:Shared}{env:Env}{value slice:Expr}{pos:Pos}{T id:String}{Q:Value->Shared->Prop}
  (hl:typeLookup (.type T) "__getitem__"=pure (some (.builtin id)))(hs:Vq slice)
  (h:wpAny (model prog w) A (eval value env) (fun o s₁=>wpAny (model prog w) A (eval slice env) (fun i s₂=>s₂.TypeIs o T/\wpAny (model prog w) A (getItem o i) Q E s₂) E s₁) E s):
  wpAny (model prog w) A (eval (.Subscript value slice pos) env) Q E s:=by
 refine Subscript_ (wpAny_mono h (fun o s₁ h₁=>wpAny_mono h₁ (fun i s₂ h₂=>?_) fun _ _ x=>x) fun _ _ x=>x)
 obtain⟨hT,h₂⟩:=h₂
 unfold subscriptTail
 refine wpAny_bind ?_
 rw[getitemInPython_of_ne hT.not_modules]
 refine wpAny_bind (wpAny_specialOf hT hl ?_)
 have fin:wpAny (model prog w) A (subscripted slice false o i) (fun r s₃=>wpAny (model prog w) A (letTemporaryGo value o r>>=fun _=>pure r) Q E s₃) E s₂:=by
  rw[hs o i]
  exact wpAny_operating (wpAny_mono h₂ (fun r s₃ h₃=>wpAny_bind (wpAny_letTemporaryGo (wpAny_pure h₃))) fun _ _ x=>x)
 first
  |exact wpAny_pure (wpAny_bind fin)
  |exact wpAny_bind (wpAny_pure (wpAny_bind fin))
  |exact wpAny_bind fin
theorem AS{X:Cx}{pins:List (Addr×Obj)}{σ:St}{H:Hp}{s:Shared}{a:Addr}{y:V}{o:Option V}(I:Inv X pins σ H s)(g:nH H a y o):s.TypeIs (.ref a) "dict":=by
 rcases g with⟨kvs,k,e,_,_⟩|⟨kvs,k,b,e,_,_,_⟩
 ·obtain⟨_,_,vs,_,dd⟩:=yF I.hok e
  exact dd.typeIs
 ·obtain⟨_,_,xs,_,dd⟩:=wH I.hok e
  exact dd.typeIs
def Vr(td ty:TE):TE:=fun σ H Q=>td σ H fun x H1=>ty σ H1 fun y H2=>∃a v,x=.ref a/\nH H2 a y (some v)/\Q v H2
def Me(ty td:TE):TE:=fun σ H Q=>ty σ H fun y H1=>td σ H1 fun x H2=>∃a o,x=.ref a/\nH H2 a y o/\Q (.bl (!o.isSome)) H2
def Vs(td ty tv:TE):TS:=fun D σ H=>tv σ H fun v H1=>td σ H1 fun x H2=>ty σ H2 fun y H3=>∃a H4,x=.ref a/\AR H3 a y v H4/\D.nx σ H4
section
variable{X:Cx}{o i e value:Expr}{pos pos' Y3:Pos}{td ty tv:TE}
theorem zq(hu:X.A.units+1<cLine)(ho:PE X o td)(hi:PE X i ty)(hs:Vq i):PE X (.Subscript o i pos) (Vr td ty):=by
 intro pins s σ H Q I h
 refine Md PySem.F.slot_dict_getitem.lookup hs (cj (ho pins s σ H _ I h) fun u s1 ⟨x,H1,I1,rx,q1⟩=>cj (hi pins s1 σ H1 _ I1 q1) fun iv s2 ⟨y,H2,I2,ry,a,v,ex,g,q2⟩=>?_)
 subst ex
 obtain rfl:u=Value.ref a:=rx
 exact⟨AS I2 g,Gm hu I2 g ry fun w' s3 I3 oY=>⟨v,H2,I3,oY,q2⟩⟩
theorem tZ(hu:X.A.units+1<cLine)(hi:PE X i ty)(ho:PE X o td):PC X .NotIn i o (Me ty td):=by
 intro pins s σ H Q I h
 refine cj (hi pins s σ H _ I h) fun iv s1 ⟨y,H1,I1,ry,q1⟩=>cj (ho pins s1 σ H1 _ I1 q1) fun u s2 ⟨x,H2,I2,rx,a,ov,ex,g,q2⟩=>?_
 subst ex
 obtain rfl:u=Value.ref a:=rx
 exact Mc hu I2 g ry fun s3 I3=>⟨.bl (!ov.isSome),H2,I3,rfl,q2⟩
theorem vQ(hu:X.A.units+1<cLine)(ho:PE X o td)(hi:PE X i ty)(hv:PE X value tv)(hs:swapsWith value (some (.Subscript o i pos')) pos.line X.env=pure false):
  PS X (.Assign [.Subscript o i pos'] value pos) (Vs td ty tv):=by
 intro pins s σ H D I h
 refine wpAny_Assign_Subscript (cj (hv pins s σ H _ I h) fun r s1 ⟨v,H1,I1,rv,q1⟩=>cj (ho pins s1 σ H1 _ I1 q1) fun u s2 ⟨x,H2,I2,rx,q2⟩=>cj (hi pins s2 σ H2 _ I2 q2) fun iv s3 ⟨y,H3,I3,ry,a,H4,ex,g,q3⟩=>?_) hs
 subst ex
 obtain rfl:u=Value.ref a:=rx
 exact Gn hu I3 g ry rv fun s4 I4=>⟨σ,H4,I4,q3⟩
end
theorem Ig{P:Program}{w:World}{H:Hp}(h:Heap)(hb:sysModules<h.objs.size):cT P w H (h.push {cls:=.type "dict",data:=.dict #[]}) h.objs.size (.dT []):=
 ⟨zero_le _,beq_eq_false_iff_ne.mpr (Ne.symm (ne_of_lt hb)),[],.nil,_,#[],0,Heap.get?_push_size _ rfl,⟨rfl,rfl,rfl⟩,rfl,rfl,List.nodup_nil⟩
def QV:TE:=fun _ H Q=>∀p,H p=none->Q (.ref p) (upd H p (.dT []))
section
variable{X:Cx}{pos:Pos}
theorem rE:PE X (.Dict [] [] pos) QV:=fun pins s σ H Q I h=>
 wpAny_Dict_empty ⟨.ref s.heap.objs.size,_,I.laid (a:=s.heap.objs.size) (o:=.dT []) (t':=s.toks) (fun _ _ q=>Heap.get?_push_of_some _ q) (Nat.le_refl _) (Ig s.heap I.big),rfl,h _ (I.hok.fresh (Nat.le_refl _))⟩
end
end L2
namespace L2
open PySem PySem.Spec PyProof.Rows
variable{X:Cx}
structure M1(X:Cx)(o:Expr)(m:Str)(apos:Pos)(e:Expr)(aY:Pos):Prop where
 base:attributeBase o m X.env (eval o X.env)=eval o X.env
 few:((backTo aY (starEach [e] X.env)).all (fun x=> !x.1)&&(backToKw aY (keywordEach [] X.env)).all (fun x=>x.1.isSome)
  &&decide (([e]:List Expr).length+([]:List Keyword).length+(if([]:List Keyword).isEmpty then 0 else 1)<30))=true
 line:(apos.endLine==aY.line)=true
 trees:backTo aY (starEach [e] X.env)=[(false,eval e X.env)]
def IsD(H:Hp)(a:Addr):Prop:=(∃kvs,Rd H a (.dK kvs))\/∃kvs,Rd H a (.dT kvs)
theorem QW{X:Cx}{pins:List (Addr×Obj)}{σ:St}{H:Hp}{s:Shared}{a:Addr}(I:Inv X pins σ H s)(d:IsD H a):
  s.TypeIs (.ref a) "dict"/\(∀b,Value.ref a=.ref b->∃ob,s.heap.get? b=some ob/\ob.dict=none)/\(a==sysModules)=false:=by
 rcases d with⟨kvs,e⟩|⟨kvs,e⟩
 ·obtain⟨_,hd,vs,_,dd⟩:=yF I.hok e
  refine⟨dd.typeIs,fun b q=>?_,hd⟩
  cases q
  obtain⟨ob,_,_,h1,h2,_⟩:=dd
  exact⟨ob,h1,h2.2.1⟩
 ·obtain⟨_,hd,xs,_,dd⟩:=wH I.hok e
  refine⟨dd.typeIs,fun b q=>?_,hd⟩
  cases q
  obtain⟨ob,_,_,h1,h2,_⟩:=dd
  exact⟨ob,h1,h2.2.1⟩
section
variable{X:Cx}{pins:List (Addr×Obj)}{σ:St}{H:Hp}{s:Shared}{a:Addr}{y d:V}{u r:Value}{o:Option V}{A:Around}{E:Value->Shared->Prop}
theorem QX{Q:Value->Shared->Prop}(hu:A.units+1<cLine)(I:Inv X pins σ H s)(g:nH H a y o)(ry:RelV y u)(h:∀w' s',Inv X pins σ H s'->RelV (o.getD .non) w'->Q w' s'):
  wpAny (model X.prog X.w) A (call (.builtin "dict.get") [.ref a,u]) Q E s:=by
 rcases g with⟨kvs,k,e,ey,l⟩|⟨kvs,k,b,e,ey,eb,l⟩
 ·subst ey
  obtain⟨z,hd,vs,rel,dd⟩:=yF I.hok e
  refine call_meetsIn slot_dict_get dd.typeIs entry_dict_get (PySem.F.args_dict_get_2 _ _) (meets_dict_get (cW X.prog X.w) a (AQ ry) hd) ⟨_,dd.mapOf,h _ _ (I.tok _) ?_⟩
  rw[l]
  exact(rel.val k).getD rfl
 ·subst ey
  cases (show u=Value.ref b from ry)
  obtain⟨z,hd,xs,rel,dd⟩:=wH I.hok e
  refine call_meetsIn slot_dict_get dd.typeIs entry_dict_get (PySem.F.args_dict_get_2 _ _) (meetsH_dict_get (tupleKind (cW X.prog X.w)) a b hd) ⟨tupleKind_room_in1 hu,k,xs,wG I.hok eb,dd,h _ _ (I.tok _) ?_⟩
  rw[l]
  exact(rel.val k).getD rfl
end
def QY(td ty:TE):TE:=fun σ H Q=>td σ H fun x H1=>∃a,x=.ref a/\IsD H1 a/\ty σ H1 fun y H2=>∃o,nH H2 a y o/\Q (o.getD .non) H2
section
variable{X:Cx}{o e f:Expr}{apos aY:Pos}{td ty tx:TE}
theorem Ih(hu:X.A.units+1<cLine)(ho:PE X o td)(he:PE X e ty)(m:M1 X o "get" apos e aY):PE X (.Call (.Attribute o "get" apos) [e] [] aY) (QY td ty):=by
 intro pins s σ H Q I h
 refine wpAny_Call_method m.base m.few m.line PySem.F.plainAttrs_dict slot_dict_get PySem.F.type_dict_get (cj (ho pins s σ H _ I h) fun u s1 ⟨x,H1,I1,rx,a,ex,d,q1⟩=>?_)
 subst ex
 obtain rfl:u=Value.ref a:=rx
 obtain⟨t1,t2,_⟩:=QW I1 d
 refine⟨t1,t2,?_⟩
 rw[m.trees]
 refine Calls.callWith_builtin rfl (Calls.evalArgs_plain (Calls.spliced_cons (cj (he pins s1 σ H1 _ I1 q1) fun iv s2 ⟨y,H2,I2,ry,ov,g,q2⟩=>Calls.spliced_nil ?_)))
 exact QX hu I2 g ry fun w' s3 I3 oY=>⟨_,H2,I3,oY,q2⟩
end
end L2
namespace DL
open PySem PySem.Spec PyProof.Rows L2
abbrev St:=L2.St
inductive D where
 |non|bl (b:Bool)|int (i:Int)|str (x:Str)|lst (xs:List D)|tup (xs:List D)|exc (n:Str)|fn (n:Str)
 deriving Inhabited
inductive R (α:Type) where
 |ok (a:α)|err (c:Str)|bad
def R.bind {α β:Type}(r:R α)(f:α->R β):R β:=match r with
 |.ok a=>f a
 |.err c=>.err c
 |.bad=>.bad
def R.of {α:Type}:Option α->R α
 |some a=>.ok a
 |none=>.bad
theorem R.bg {α β:Type}(a:α)(f:α->R β):(R.ok a).bind f=f a:=rfl
theorem R.lC {α:Type}(a:α):R.of (some a)=.ok a:=rfl
def Good{α:Type}(E:Str->Hp->Prop)(H₀:Hp)(r:R α)(post:α->Prop):Prop:=match r with
 |.ok a=>post a
 |.err c=>∀H',aH H₀ H'->E c H'
 |.bad=>False
theorem Good.bind {α β:Type}{E:Str->Hp->Prop}{H₀:Hp}{r:R α}{k:α->R β}{post:β->Prop}(h:Good E H₀ (r.bind k) post):Good E H₀ r (fun a=>Good E H₀ (k a) post):=by
 cases r with
 |ok a=>exact h
 |err c=>exact h
 |bad=>exact h
theorem Good.mono {α:Type}{E:Str->Hp->Prop}{H₀:Hp}{r:R α}{p q:α->Prop}(h:Good E H₀ r p)(w:∀a,r=.ok a->p a->q a):Good E H₀ r q:=by
 cases r with
 |ok a=>exact w a rfl h
 |err c=>exact h
 |bad=>exact h
theorem Good.D6 {α β:Type}{E:Str->Hp->Prop}{H₀:Hp}{r:R α}{k:α->R β}{p:α->Prop}{q:β->Prop}(h:Good E H₀ r p)(w:∀a,r=.ok a->p a->Good E H₀ (k a) q):Good E H₀ (r.bind k) q:=by
 cases r with
 |ok a=>exact w a rfl h
 |err c=>exact h
 |bad=>exact h
theorem Good.of {α:Type}{E:Str->Hp->Prop}{H₀:Hp}{o:Option α}{p:α->Prop}(h:Good E H₀ (R.of o) p):∃a,o=some a/\p a:=by
 cases o with
 |none=>exact False.elim h
 |some a=>exact⟨a,rfl,h⟩
def KL(K:PySem.W.Frag)(a:Addr)(xs:List V):Prop:=∃(o:Obj)(its:Array Value)(n:Nat),K.lookup a=some o/\o.cls=.type "list"/\o.dict=none/\o.data=.seq its n/\its.size<=sizeLine/\Vals xs its.toList
def KT(K:PySem.W.Frag)(a:Addr)(xs:List V):Prop:=∃(o:Obj)(its:Array Value)(n:Nat),K.lookup a=some o/\o.cls=.type "tuple"/\o.data=.seq its n/\its.size<=sizeLine/\Vals xs its.toList
def vv(K:PySem.W.Frag)(P:Addr->Prop)(H:Hp)(a:Addr)(vs:List V):Prop:=(P a/\Rd H a (.lst vs))\/KL K a vs
def Gq(K:PySem.W.Frag)(P:Addr->Prop)(H:Hp)(a:Addr)(vs:List V):Prop:=(P a/\Rd H a (.tup vs))\/KT K a vs
theorem vv.sq {K:PySem.W.Frag}{P:Addr->Prop}{H:Hp}{a:Addr}{vs:List V}(h:vv K P H a vs):ck K H a vs:=h.elim (fun z=>.inl z.2) .inr
theorem Gq.sq {K:PySem.W.Frag}{P:Addr->Prop}{H:Hp}{a:Addr}{vs:List V}(h:Gq K P H a vs):AF K H a vs:=h.elim (fun z=>.inl z.2) .inr
theorem vv.any {K:PySem.W.Frag}{H:Hp}{a:Addr}{vs:List V}(h:ck K H a vs):vv K (fun _=>True) H a vs:=h.elim (fun z=>.inl ⟨trivial,z⟩) .inr
def Zj(a C:Addr):Heap->Prop:=fun h=>∃vs,h.get? a=some {cls:=.ref C,data:=.fields vs}
def Is(K:PySem.W.Frag)(P:Addr->Prop)(H:Hp):D->V->Prop
 |.non,v=>v=.non
 |.bl b,v=>v=.bl b
 |.int i,v=>v=.int i
 |.str x,v=>v=.str x
 |.lst ds,v=>∃a vs,v=.ref a/\vv K P H a vs/\IsL ds vs
 |.tup ds,v=>∃a vs,v=.ref a/\Gq K P H a vs/\IsL ds vs
 |.exc n,v=>∃a C,v=.ref a/\P a/\nsIn K mainGlobals n=some (some (.ref C))/\H a=some (.ext (Zj a C))
 |.fn n,v=>∃a,v=.ref a/\nsIn K mainGlobals n=some (some (.ref a))
where
 IsL:List D->List V->Prop
 |[],vs=>vs=[]
 |d::ds,vs=>∃v r,vs=v::r/\Is K P H d v/\IsL ds r
abbrev IsL(K:PySem.W.Frag)(P:Addr->Prop)(H:Hp):List D->List V->Prop:=Is.IsL K P H
section
variable{K:PySem.W.Frag}{P P':Addr->Prop}{H H':Hp}
structure Ext(P P':Addr->Prop)(H H':Hp):Prop where
 p:∀a o,P a->H a=some o->P' a
 h:∀a o,P a->H a=some o->H' a=some o
theorem Ext.rd (e:Ext P P' H H'){a:Addr}{u:HO}(p:P a)(r:Rd H a u):P' a/\Rd H' a u:=by
 rcases r with r|⟨o,r⟩
 ·exact⟨e.p a _ p r,.inl (e.h a _ p r)⟩
 ·exact⟨e.p a _ p r,.inr ⟨o,e.h a _ p r⟩⟩
theorem vv.ext (e:Ext P P' H H'){a:Addr}{vs:List V}(h:vv K P H a vs):vv K P' H' a vs:=h.elim (fun z=>.inl (e.rd z.1 z.2)) .inr
theorem Gq.ext (e:Ext P P' H H'){a:Addr}{vs:List V}(h:Gq K P H a vs):Gq K P' H' a vs:=h.elim (fun z=>.inl (e.rd z.1 z.2)) .inr
mutual
theorem Is.ext (e:Ext P P' H H'):∀(d:D)(v:V),Is K P H d v->Is K P' H' d v
 |.non,_,h=>h
 |.bl _,_,h=>h
 |.int _,_,h=>h
 |.str _,_,h=>h
 |.lst ds,_,⟨a,vs,e1,l,q⟩=>⟨a,vs,e1,l.ext e,IsL.ext e ds vs q⟩
 |.tup ds,_,⟨a,vs,e1,l,q⟩=>⟨a,vs,e1,l.ext e,IsL.ext e ds vs q⟩
 |.exc n,_,⟨a,C,e1,p,c,q⟩=>⟨a,C,e1,e.p a _ p q,c,e.h a _ p q⟩
 |.fn _,_,h=>h
theorem IsL.ext (e:Ext P P' H H'):∀(ds:List D)(vs:List V),IsL K P H ds vs->IsL K P' H' ds vs
 |[],_,h=>h
 |d::ds,_,⟨v,r,e1,p,q⟩=>⟨v,r,e1,Is.ext e d v p,IsL.ext e ds r q⟩
end
theorem Ext.same (s:aH H H'):Ext P P H H':=⟨fun _ _ p _=>p,fun a o _ h=>s a o h⟩
theorem Is.same (s:aH H H'){d:D}{v:V}(h:Is K P H d v):Is K P H' d v:=Is.ext (.same s) d v h
theorem IsL.same (s:aH H H'){d:List D}{v:List V}(h:IsL K P H d v):IsL K P H' d v:=IsL.ext (.same s) d v h
theorem Is.weak {d:D}{v:V}(h:Is K P H d v):Is K (fun _=>True) H d v:=Is.ext ⟨fun _ _ _ _=>trivial,fun _ _ _ q=>q⟩ d v h
theorem IsL.weak {d:List D}{v:List V}(h:IsL K P H d v):IsL K (fun _=>True) H d v:=IsL.ext ⟨fun _ _ _ _=>trivial,fun _ _ _ q=>q⟩ d v h
def toV:D->Option V
 |.non=>some .non
 |.bl b=>some (.bl b)
 |.int i=>some (.int i)
 |.str x=>some (.str x)
 |_=>none
theorem Is.sc {d:D}{z:V}(h:toV d=some z):Is K P H d z:=by
 cases d with
 |non=>cases h;rfl
 |bl b=>cases h;rfl
 |int b=>cases h;rfl
 |str b=>cases h;rfl
 |lst b=>cases h
 |exc _=>cases h
 |fn _=>cases h
 |tup b=>cases h
theorem Is.N8 {d:D}{z v:V}(h:toV d=some z)(i:Is K P H d v):v=z:=by
 cases d with
 |non=>cases h;exact i
 |bl b=>cases h;exact i
 |int b=>cases h;exact i
 |str b=>cases h;exact i
 |lst b=>cases h
 |exc _=>cases h
 |fn _=>cases h
 |tup b=>cases h
theorem IsL.length:∀{ds:List D}{vs:List V},IsL K P H ds vs->vs.length=ds.length
 |[],_,h=>by subst h;rfl
 |d::ds,_,⟨v,r,e,_,q⟩=>by subst e;simp[IsL.length q]
theorem IsL.get:∀{ds:List D}{vs:List V}{i:Nat}{d:D},IsL K P H ds vs->ds[i]?=some d->∃v,vs[i]?=some v/\Is K P H d v
 |[],_,_,_,_,e=>by simp at e
 |d::ds,_,0,_,⟨v,r,e,p,q⟩,e2=>by subst e;simp at e2;subst e2;exact⟨v,rfl,p⟩
 |d::ds,_,i+1,_,⟨v,r,e,p,q⟩,e2=>by
  subst e
  obtain⟨v',h1,h2⟩:=IsL.get (i:=i) q (by simpa using e2)
  exact⟨v',by simpa using h1,h2⟩
theorem IsL.app:∀{ds es:List D}{vs ws:List V},IsL K P H ds vs->IsL K P H es ws->IsL K P H (ds++es) (vs++ws)
 |[],_,_,_,h,q=>by
  have h':_=[]:=h
  subst h';exact q
 |d::ds,_,_,_,⟨v,r,e,p,q⟩,q2=>by subst e;exact⟨v,_,rfl,p,IsL.app q q2⟩
theorem IsL.one {d:D}{v:V}(h:Is K P H d v):IsL K P H [d] [v]:=⟨v,[],rfl,h,rfl⟩
theorem IsL.cons {d:D}{v:V}{ds:List D}{vs:List V}(h:Is K P H d v)(q:IsL K P H ds vs):IsL K P H (d::ds) (v::vs):=⟨v,vs,rfl,h,q⟩
theorem IsL.drop:∀{ds:List D}{vs:List V}(n:Nat),IsL K P H ds vs->IsL K P H (ds.drop n) (vs.drop n)
 |_,_,0,h=>h
 |[],_,n+1,h=>by
  have h':_=[]:=h
  subst h';exact rfl
 |d::ds,_,n+1,⟨v,r,e,p,q⟩=>by subst e;exact IsL.drop n q
theorem IsL.take:∀{ds:List D}{vs:List V}(n:Nat),IsL K P H ds vs->IsL K P H (ds.take n) (vs.take n)
 |_,_,0,_=>rfl
 |[],_,n+1,h=>by
  have h':_=[]:=h
  subst h';exact rfl
 |d::ds,_,n+1,⟨v,r,e,p,q⟩=>by subst e;exact⟨v,_,rfl,p,IsL.take n q⟩
theorem IsL.set:∀{ds:List D}{vs:List V}{d:D}{v:V}(i:Nat),IsL K P H ds vs->Is K P H d v->IsL K P H (ds.set i d) (vs.set i v)
 |[],_,_,_,_,h,_=>by
  have h':_=[]:=h
  subst h';exact rfl
 |d::ds,_,_,_,0,⟨v,r,e,p,q⟩,h=>by subst e;exact⟨_,_,rfl,h,q⟩
 |d::ds,_,_,_,i+1,⟨v,r,e,p,q⟩,h=>by subst e;exact⟨v,_,rfl,p,IsL.set i q h⟩
end
abbrev Mf:=Int×Int×List Int
inductive Ct where
 |ls (nss:List (List Int))|tp (nss:List (List Int))|dk (ks:List Int)|tq (n:Int) (ns:List Int)|tr (ts:List Mf)
instance:Coe (List (List Int)) Ct:=⟨Ct.ls⟩
inductive Sl where
 |no|val (d:D)|own (xs:List D)|raw (v:V)|deep (c:Ct)
abbrev DE:=List Sl
structure Gh where
 P₀:Addr->Prop
 H₀:Hp
def Gh.P (g:Gh)(os:List Addr)(a:Addr):Prop:=(g.P₀ a\/g.H₀ a=none)/\a∉os
structure Ao(hd:List V->HO)(H:Hp)(os:List Addr)(a:Addr)(as:List Addr)(nss:List (List Int)):Prop where
 ma:a∈os
 ha:H a=some (hd (as.map V.ref))
 len:as.length=nss.length
 nd:(a::as).Nodup
 it:∀(k:Nat)(b:Addr)(ns:List Int),as[k]?=some b->nss[k]?=some ns->b∈os/\H b=some (.lst (ns.map V.int))
theorem Ao.mem {hd:List V->HO}{H:Hp}{os:List Addr}{a:Addr}{as:List Addr}{nss:List (List Int)}(d:Ao hd H os a as nss):∀x∈a::as,x∈os/\∃o,H x=some o:=fun x hx=>by
 rcases mem_cons.mp hx with rfl|hx
 ·exact⟨d.ma,_,d.ha⟩
 ·obtain⟨k,hk,rfl⟩:=getElem_of_mem hx
  have QZ:k<nss.length:=by rw[<-d.len];exact hk
  have q:=d.it k _ _ (getElem?_eq_getElem hk) (getElem?_eq_getElem QZ)
  exact⟨q.1,_,q.2⟩
theorem Ao.to {hd:List V->HO}{H H':Hp}{os fM:List Addr}{a:Addr}{as:List Addr}{nss:List (List Int)}(d:Ao hd H os a as nss)(h:∀x∈a::as,x∈fM/\H' x=H x):Ao hd H' fM a as nss:=
 ⟨(h a (by simp)).1,by rw[(h a (by simp)).2];exact d.ha,d.len,d.nd,fun k b ns e1 e2=>by
  have q:=d.it k b ns e1 e2
  have hb:=h b (mem_cons_of_mem _ (mem_of_getElem? e1))
  exact⟨hb.1,by rw[hb.2];exact q.2⟩⟩
def Vt(H:Hp)(as:List Addr)(t:Mf)(v:V):Prop:=∃b c,v=.ref b/\b∈as/\c∈as/\H b=some (.tup [.int t.1,.int t.2.1,.ref c])/\H c=some (.lst (t.2.2.map V.int))
structure Q0(H:Hp)(os:List Addr)(a:Addr)(as:List Addr)(ts:List Mf):Prop where
 ma:a∈os
 na:a∉as
 mem:∀x∈as,x∈os/\∃o,H x=some o
 at_:∃vs,H a=some (.lst vs)/\vs.length=ts.length/\∀(k:Nat)(t:Mf)(v:V),ts[k]?=some t->vs[k]?=some v->Vt H as t v
theorem Vt.to {H H':Hp}{as as':List Addr}{t:Mf}{v:V}(d:Vt H as t v)(h:∀x∈as,x∈as'/\H' x=H x):Vt H' as' t v:=by
 obtain⟨b,c,e,h1,h2,h3,h4⟩:=d
 exact⟨b,c,e,(h b h1).1,(h c h2).1,by rw[(h b h1).2];exact h3,by rw[(h c h2).2];exact h4⟩
theorem Q0.to {H H':Hp}{os fM:List Addr}{a:Addr}{as:List Addr}{ts:List Mf}(d:Q0 H os a as ts)(h:∀x∈a::as,x∈fM/\H' x=H x):Q0 H' fM a as ts:=by
 obtain⟨vs,h1,h2,h3⟩:=d.at_
 refine⟨(h a (by simp)).1,d.na,fun x hx=>?_,vs,by rw[(h a (by simp)).2];exact h1,h2,fun k t v e1 e2=>(h3 k t v e1 e2).to fun x hx=>⟨hx,(h x (mem_cons_of_mem _ hx)).2⟩⟩
 obtain⟨q1,o,q2⟩:=d.mem x hx
 have q:=h x (mem_cons_of_mem _ hx)
 exact⟨q.1,o,by rw[q.2];exact q2⟩
def kvT(ks:List Int):List (Key×V):=ks.map fun k=>(Sum.inl k,V.bl true)
abbrev Dp(H:Hp)(os:List Addr)(a:Addr)(as:List Addr)(c:Ct):Prop:=match c with
 |.ls nss=>Ao HO.lst H os a as nss
 |.tp nss=>Ao HO.tup H os a as nss
 |.dk ks=>a∈os/\as=[]/\H a=some (.dK (kvT ks))
 |.tq n ns=>∃b,as=[b]/\a∈os/\b∈os/\a≠b/\H a=some (.tup [.int n,.ref b])/\H b=some (.lst (ns.map V.int))
 |.tr ts=>Q0 H os a as ts
theorem Dp.mem {H:Hp}{os:List Addr}{a:Addr}{as:List Addr}{c:Ct}(d:Dp H os a as c):∀x∈a::as,x∈os/\∃o,H x=some o:=by
 cases c with
 |ls nss=>exact Ao.mem d
 |tp nss=>exact Ao.mem d
 |dk ks=>
  obtain⟨h1,rfl,h2⟩:=d
  intro x hx
  rcases mem_cons.mp hx with rfl|hx
  ·exact⟨h1,_,h2⟩
  ·cases hx
 |tq n ns=>
  obtain⟨b,rfl,h1,h2,h3,h4,h5⟩:=d
  intro x hx
  rcases mem_cons.mp hx with rfl|hx
  ·exact⟨h1,_,h4⟩
  ·rcases mem_cons.mp hx with rfl|hx
   ·exact⟨h2,_,h5⟩
   ·cases hx
 |tr ts=>
  have d':Q0 H os a as ts:=d
  intro x hx
  rcases mem_cons.mp hx with rfl|hx
  ·obtain⟨vs,h1,_⟩:=d'.at_
   exact⟨d'.ma,_,h1⟩
  ·exact d'.mem x hx
theorem Dp.to {H H':Hp}{os fM:List Addr}{a:Addr}{as:List Addr}{c:Ct}(d:Dp H os a as c)(h:∀x∈a::as,x∈fM/\H' x=H x):Dp H' fM a as c:=by
 cases c with
 |ls nss=>exact Ao.to d h
 |tp nss=>exact Ao.to d h
 |dk ks=>
  obtain⟨h1,rfl,h2⟩:=d
  exact⟨(h a (by simp)).1,rfl,by rw[(h a (by simp)).2];exact h2⟩
 |tq n ns=>
  obtain⟨b,rfl,h1,h2,h3,h4,h5⟩:=d
  exact⟨b,rfl,(h a (by simp)).1,(h b (by simp)).1,h3,by rw[(h a (by simp)).2];exact h4,by rw[(h b (by simp)).2];exact h5⟩
 |tr ts=>exact Q0.to d h
theorem Dp.ma {H:Hp}{os:List Addr}{a:Addr}{as:List Addr}{nss:List (List Int)}(d:Dp H os a as (.ls nss)):a∈os:=Ao.ma d
theorem Dp.ha {H:Hp}{os:List Addr}{a:Addr}{as:List Addr}{nss:List (List Int)}(d:Dp H os a as (.ls nss)):H a=some (.lst (as.map V.ref)):=Ao.ha d
theorem Dp.len {H:Hp}{os:List Addr}{a:Addr}{as:List Addr}{nss:List (List Int)}(d:Dp H os a as (.ls nss)):as.length=nss.length:=Ao.len d
theorem Dp.nd {H:Hp}{os:List Addr}{a:Addr}{as:List Addr}{nss:List (List Int)}(d:Dp H os a as (.ls nss)):(a::as).Nodup:=Ao.nd d
theorem Dp.it {H:Hp}{os:List Addr}{a:Addr}{as:List Addr}{nss:List (List Int)}(d:Dp H os a as (.ls nss)):∀(k:Nat)(b:Addr)(ns:List Int),as[k]?=some b->nss[k]?=some ns->b∈os/\H b=some (.lst (ns.map V.int)):=Ao.it d
structure Ub(A:Nat->List Addr)(env:DE)(σ:St)(H:Hp)(os:List Addr):Prop where
 dp:∀(i:Nat)(nss:Ct),env[i]?=some (.deep nss)->∃a as,A i=a::as/\σ[i]?=some (some (.ref a))/\Dp H os a as nss
 ow:∀(i:Nat)(nss:Ct)(j:Nat)(xs:List D)(b:Addr),env[i]?=some (.deep nss)->env[j]?=some (.own xs)->σ[j]?=some (some (.ref b))->b∉A i
 dj:∀(i j:Nat)(nss qH:Ct),i≠j->env[i]?=some (.deep nss)->env[j]?=some (.deep qH)->∀x∈A i,x∉A j
theorem Ub.mem {A:Nat->List Addr}{env:DE}{σ:St}{H:Hp}{os:List Addr}(d:Ub A env σ H os){i:Nat}{nss:Ct}(e:env[i]?=some (.deep nss)):∀x∈A i,x∈os/\∃o,H x=some o:=fun x hx=>by
 obtain⟨a,as,h1,_,h3⟩:=d.dp i nss e
 rw[h1]at hx
 exact h3.mem x hx
theorem Ub.to {A:Nat->List Addr}{env nJ:DE}{σ σ':St}{H H':Hp}{os fM:List Addr}(d:Ub A env σ H os)
  (hd:∀(j:Nat)(nss:Ct),nJ[j]?=some (.deep nss)->env[j]?=some (.deep nss)/\σ'[j]?=σ[j]?)
  (ho:∀(j:Nat)(xs:List D)(b:Addr),nJ[j]?=some (.own xs)->σ'[j]?=some (some (.ref b))->(∃ys,env[j]?=some (.own ys)/\σ[j]?=some (some (.ref b)))\/b∉os)
  (hH:∀(i:Nat)(nss:Ct),env[i]?=some (.deep nss)->∀x∈A i,x∈fM/\H' x=H x):Ub A nJ σ' H' fM where
 dp i nss e:=by
  obtain⟨e',q⟩:=hd i nss e
  obtain⟨a,as,h1,h2,h3⟩:=d.dp i nss e'
  exact⟨a,as,h1,by rw[q];exact h2,h3.to fun x hx=>hH i nss e' x (by rw[h1];exact hx)⟩
 ow i nss j xs b e1 e2 e3:=by
  obtain⟨Mg,_⟩:=hd i nss e1
  rcases ho j xs b e2 e3 with⟨ys,q1,q2⟩|q
  ·exact d.ow i nss j ys b Mg q1 q2
  ·exact fun z=>q (d.mem Mg b z).1
 dj i j nss qH hij e1 e2:=d.dj i j nss qH hij (hd i nss e1).1 (hd j qH e2).1
def CS(env:DE)(σ:St)(H:Hp)(os:List Addr):Prop:=∃A,Ub A env σ H os
theorem CS.none {env:DE}{σ:St}{H:Hp}{os:List Addr}(h:∀(i:Nat)(nss:Ct),env[i]?≠some (.deep nss)):CS env σ H os:=
 ⟨fun _=>[],fun i nss e=>(h i nss e).elim,fun i nss _ _ _ e=>(h i nss e).elim,fun i _ nss _ _ e=>(h i nss e).elim⟩
structure Rel(K:PySem.W.Frag)(g:Gh)(env:DE)(σ:St)(H:Hp)(os:List Addr):Prop where
 len:σ.length=env.length
 ext:aH g.H₀ H
 val:∀(i:Nat)(d:D),env[i]?=some (.val d)->∃v,σ[i]?=some (some v)/\Is K (g.P os) H d v
 own:∀(i:Nat)(xs:List D),env[i]?=some (.own xs)->∃a vs,σ[i]?=some (some (.ref a))/\a∈os/\H a=some (.lst vs)/\IsL K (g.P os) H xs vs
 inj:∀(i j:Nat)(xs ys:List D)(a:Addr),env[i]?=some (.own xs)->env[j]?=some (.own ys)->σ[i]?=some (some (.ref a))->σ[j]?=some (some (.ref a))->i=j
 new:∀a∈os,g.H₀ a=none/\∃o,H a=some o
 raw:∀(i:Nat)(v:V),env[i]?=some (.raw v)->σ[i]?=some (some v)
 Ii:CS env σ H os
section
variable{K:PySem.W.Frag}{g:Gh}{env:DE}{σ:St}{H H':Hp}{os:List Addr}
theorem Rel.same (r:Rel K g env σ H os)(s:aH H H'):Rel K g env σ H' os:=
 ⟨r.len,r.ext.trans s,fun i d e=>let⟨v,h1,h2⟩:=r.val i d e;⟨v,h1,h2.same s⟩,
  fun i xs e=>let⟨a,vs,h1,h2,h3,h4⟩:=r.own i xs e;⟨a,vs,h1,h2,s a _ h3,h4.same s⟩,r.inj,fun a ha=>⟨(r.new a ha).1,let⟨o,h⟩:=(r.new a ha).2;⟨o,s a o h⟩⟩,r.raw,by
  obtain⟨A,d⟩:=r.Ii
  exact⟨A,d.to (fun j nss e=>⟨e,rfl⟩) (fun j xs b e q=>.inl ⟨xs,e,q⟩) fun i nss e x hx=>by
   obtain⟨q1,o,q2⟩:=d.mem e x hx
   exact⟨q1,by rw[s x o q2,q2]⟩⟩⟩
theorem Rel.fresh (r:Rel K g env σ H os){a:Addr}(h:H a=none):g.P os a:=by
 refine⟨.inr (r.ext.free h),fun hm=>?_⟩
 obtain⟨o,e⟩:=(r.new a hm).2
 rw[h]at e;cases e
theorem aI{p:Addr}(h:H p=none)(o:HO):aH H (upd H p o):=fun b u q=>by rw[ah (au q h)];exact q
theorem Rel.set (r:Rel K g env σ H os)(i:Nat){d:D}{v:V}(h:Is K (g.P os) H d v):Rel K g (env.set i (.val d)) (σ.set i (some v)) H os:=by
 refine⟨by simp[r.len],r.ext,fun j d' e=>?_,fun j xs e=>?_,fun j k xs ys a e1 e2 e3 e4=>?_,r.new,fun j w e=>?_,?_⟩
 ·by_cases hj:i=j
  ·subst hj
   have hi:i<env.length:=by
    have:=(List.getElem?_eq_some_iff.mp e).1
    simpa using this
   rw[getElem?_set_self hi]at e
   cases e
   exact⟨v,by rw[getElem?_set_self (by rw[r.len];exact hi)],h⟩
  ·rw[getElem?_set_ne hj]at e
   obtain⟨v',h1,h2⟩:=r.val j d' e
   exact⟨v',by rw[getElem?_set_ne hj];exact h1,h2⟩
 ·by_cases hj:i=j
  ·subst hj
   have hi:i<env.length:=by
    have:=(List.getElem?_eq_some_iff.mp e).1
    simpa using this
   rw[getElem?_set_self hi]at e
   cases e
  ·rw[getElem?_set_ne hj]at e
   obtain⟨a,vs,h1,h2⟩:=r.own j xs e
   exact⟨a,vs,by rw[getElem?_set_ne hj];exact h1,h2⟩
 ·have f:∀(j:Nat)(xs:List D),(env.set i (Sl.val d))[j]?=some (.own xs)->i≠j:=fun j xs e hj=>by
   subst hj
   have hi:i<env.length:=by
    have:=(List.getElem?_eq_some_iff.mp e).1
    simpa using this
   rw[getElem?_set_self hi]at e
   cases e
  have hj:=f j xs e1
  have hk:=f k ys e2
  rw[getElem?_set_ne hj]at e1 e3
  rw[getElem?_set_ne hk]at e2 e4
  exact r.inj j k xs ys a e1 e2 e3 e4
 ·by_cases hj:i=j
  ·subst hj
   have hi:i<env.length:=by
    have:=(List.getElem?_eq_some_iff.mp e).1
    simpa using this
   rw[getElem?_set_self hi]at e
   cases e
  ·rw[getElem?_set_ne hj]at e⊢
   exact r.raw j w e
 ·obtain⟨A,dd⟩:=r.Ii
  have f:∀(j:Nat)(sl:Sl),(env.set i (Sl.val d))[j]?=some sl->(∀d',sl≠.val d')->i≠j/\env[j]?=some sl:=fun j sl q hn=>by
   by_cases hj:i=j
   ·subst hj
    have hi:i<env.length:=by
     have:=(List.getElem?_eq_some_iff.mp q).1
     simpa using this
    rw[getElem?_set_self hi]at q
    exact(hn d (Option.some.inj q).symm).elim
   ·rw[getElem?_set_ne hj]at q
    exact⟨hj,q⟩
  refine⟨A,dd.to (fun j nss q=>?_) (fun j xs b q z=>?_) fun j nss q x hx=>⟨(dd.mem q x hx).1,rfl⟩⟩
  ·obtain⟨hj,q⟩:=f j _ q (fun _ z=>nomatch z)
   exact⟨q,by rw[getElem?_set_ne hj]⟩
  ·obtain⟨hj,q⟩:=f j _ q (fun _ z=>nomatch z)
   rw[getElem?_set_ne hj]at z
   exact .inl ⟨xs,q,z⟩
theorem Rel.apart (r:Rel K g env σ H os){a:Addr}(s:aH H H')(hn:H a=none):Ext (g.P os) (g.P (a::os)) H H':=
 ⟨fun b o p e=>⟨p.1,fun hm=>by
  rcases mem_cons.mp hm with z|z
  ·rw[z,hn]at e;cases e
  ·exact p.2 z⟩,fun b o _ e=>s b o e⟩
theorem bp{α:Type}{l:List α}{i:Nat}{x y:α}(e:(l.set i x)[i]?=some y):y=x:=by
 have hi:i<l.length:=by
  have:=(List.getElem?_eq_some_iff.mp e).1
  simpa using this
 rw[getElem?_set_self hi]at e
 cases e;rfl
theorem yG{α:Type}{l:List α}{i j:Nat}{x y:α}(e:(l.set i x)[j]?=some y):j<l.length:=by
 have:=(List.getElem?_eq_some_iff.mp e).1
 simpa using this
theorem Rel.Zk (r:Rel K g env σ H os)(s:aH H H')(i:Nat){xs:List D}{vs:List V}{a:Addr}(hn:H a=none)(hH:H' a=some (.lst vs))(h:IsL K (g.P (a::os)) H' xs vs):
  Rel K g (env.set i (.own xs)) (σ.set i (some (.ref a))) H' (a::os):=by
 have ap:=r.apart s hn
 have old:∀(j:Nat)(ys:List D),env[j]?=some (.own ys)->σ[j]?=some (some (.ref a))->False:=fun j ys e q=>by
  obtain⟨b,ws,h1,h2,h3,_⟩:=r.own j ys e
  rw[q]at h1
  cases h1
  rw[hn]at h3;cases h3
 refine⟨by simp[r.len],r.ext.trans s,fun j d' e=>?_,fun j ys e=>?_,fun j k ys zs b e1 e2 e3 e4=>?_,fun b hb=>?_,fun j w e=>?_,?_⟩
 ·by_cases hj:i=j
  ·subst hj
   exact nomatch bp e
  ·rw[getElem?_set_ne hj]at e
   obtain⟨v,h1,h2⟩:=r.val j d' e
   exact⟨v,by rw[getElem?_set_ne hj];exact h1,Is.ext ap _ _ h2⟩
 ·by_cases hj:i=j
  ·subst hj
   have hi:=yG e
   have e':=bp e
   cases e'
   exact⟨a,vs,by rw[getElem?_set_self (by rw[r.len];exact hi)],by simp,hH,h⟩
  ·rw[getElem?_set_ne hj]at e
   obtain⟨b,ws,h1,h2,h3,h4⟩:=r.own j ys e
   exact⟨b,ws,by rw[getElem?_set_ne hj];exact h1,mem_cons_of_mem _ h2,s _ _ h3,IsL.ext ap _ _ h4⟩
 ·by_cases hj:i=j
  ·subst hj
   by_cases hk:i=k
   ·exact hk
   ·have e3':=bp e3
    cases e3'
    rw[getElem?_set_ne hk]at e2 e4
    exact(old k zs e2 e4).elim
  ·by_cases hk:i=k
   ·subst hk
    have e4':=bp e4
    cases e4'
    rw[getElem?_set_ne hj]at e1 e3
    exact(old j ys e1 e3).elim
   ·rw[getElem?_set_ne hj]at e1 e3
    rw[getElem?_set_ne hk]at e2 e4
    exact r.inj j k ys zs b e1 e2 e3 e4
 ·rcases mem_cons.mp hb with rfl|hb
  ·exact⟨r.ext.free hn,_,hH⟩
  ·obtain⟨h1,o,h2⟩:=r.new b hb
   exact⟨h1,o,s _ _ h2⟩
 ·by_cases hj:i=j
  ·subst hj
   exact nomatch bp e
  ·rw[getElem?_set_ne hj]at e⊢
   exact r.raw j w e
 ·obtain⟨A,dd⟩:=r.Ii
  have f:∀(j:Nat)(sl:Sl),(env.set i (Sl.own xs))[j]?=some sl->i≠j->env[j]?=some sl:=fun j sl q hj=>by
   rwa [getElem?_set_ne hj]at q
  refine⟨A,dd.to (fun j nss q=>?_) (fun j ys b q z=>?_) fun j nss q x hx=>?_⟩
  ·by_cases hj:i=j
   ·subst hj
    exact nomatch bp q
   ·exact⟨f j _ q hj,by rw[getElem?_set_ne hj]⟩
  ·by_cases hj:i=j
   ·subst hj
    have z':=bp z
    cases z'
    exact .inr fun hm=>by
     obtain⟨o,ho⟩:=(r.new a hm).2
     rw[hn]at ho
     cases ho
   ·rw[getElem?_set_ne hj]at z
    exact .inl ⟨ys,f j _ q hj,z⟩
  ·obtain⟨q1,o,q2⟩:=dd.mem q x hx
   exact⟨mem_cons_of_mem _ q1,by rw[s x o q2,q2]⟩
theorem Rel.mut (r:Rel K g env σ H os){i:Nat}{xs Zl:List D}{D7:List V}{a:Addr}(e:env[i]?=some (.own xs))(hσ:σ[i]?=some (some (.ref a)))(ha:a∈os)(h:IsL K (g.P os) H Zl D7):
  Rel K g (env.set i (.own Zl)) σ (upd H a (.lst D7)) os:=by
 have ex:Ext (g.P os) (g.P os) H (upd H a (.lst D7)):=⟨fun _ _ p _=>p,fun b o p q=>by rw[ah (fun z=>p.2 (by rw[z];exact ha))];exact q⟩
 refine⟨by simp[r.len],fun b o q=>?_,fun j d' e'=>?_,fun j ys e'=>?_,fun j k ys zs b e1 e2 e3 e4=>?_,fun b hb=>?_,fun j w e'=>?_,?_⟩
 ·rw[ah (fun z=>by rw[z,(r.new a ha).1]at q;cases q)]
  exact r.ext b o q
 ·by_cases hj:i=j
  ·subst hj
   exact nomatch bp e'
  ·rw[getElem?_set_ne hj]at e'
   obtain⟨v,h1,h2⟩:=r.val j d' e'
   exact⟨v,h1,Is.ext ex _ _ h2⟩
 ·by_cases hj:i=j
  ·subst hj
   have e2:=bp e'
   cases e2
   exact⟨a,D7,hσ,ha,ar,IsL.ext ex _ _ h⟩
  ·rw[getElem?_set_ne hj]at e'
   obtain⟨b,ws,h1,h2,h3,h4⟩:=r.own j ys e'
   have hb:b≠a:=fun z=>by
    subst z
    exact hj (r.inj i j xs ys b e e' hσ h1)
   exact⟨b,ws,h1,h2,by rw[ah hb];exact h3,IsL.ext ex _ _ h4⟩
 ·have f:∀(j:Nat)(ys:List D),(env.set i (Sl.own Zl))[j]?=some (.own ys)->∃ys',env[j]?=some (.own ys'):=fun j ys q=>by
   by_cases hj:i=j
   ·subst hj;exact⟨xs,e⟩
   ·rw[getElem?_set_ne hj]at q;exact⟨ys,q⟩
  obtain⟨y1,f1⟩:=f j ys e1
  obtain⟨y2,f2⟩:=f k zs e2
  exact r.inj j k y1 y2 b f1 f2 e3 e4
 ·obtain⟨h1,o,h2⟩:=r.new b hb
  refine⟨h1,?_⟩
  by_cases z:b=a
  ·exact⟨_,by rw[z];exact ar⟩
  ·exact⟨o,by rw[ah z];exact h2⟩
 ·by_cases hj:i=j
  ·subst hj
   exact nomatch bp e'
  ·rw[getElem?_set_ne hj]at e'
   exact r.raw j w e'
 ·obtain⟨A,dd⟩:=r.Ii
  refine⟨A,dd.to (fun j nss q=>?_) (fun j ys b q z=>?_) fun j nss q x hx=>⟨(dd.mem q x hx).1,?_⟩⟩
  ·by_cases hj:i=j
   ·subst hj
    exact nomatch bp q
   ·rw[getElem?_set_ne hj]at q
    exact⟨q,rfl⟩
  ·by_cases hj:i=j
   ·subst hj
    exact .inl ⟨xs,e,z⟩
   ·rw[getElem?_set_ne hj]at q
    exact .inl ⟨ys,q,z⟩
  ·have hxa:x≠a:=fun z=>dd.ow j nss i xs a q e hσ (by rw[<-z];exact hx)
   rw[ah hxa]
end
section
variable(K:PySem.W.Frag)(E:Str->Hp->Prop)
def tD(f:DE->R D):TE:=fun σ H Q=>∃g env os,Rel K g env σ H os/\Good E g.H₀ (f env) fun d=>∀v H',aH H H'->Is K (g.P os) H' d v->Q v H'
def tB(f:DE->R D):TE:=fun σ H Q=>∃g env os,Rel K g env σ H os/\Good E g.H₀ (f env) fun d=>∀v H',aH H H'->Is K (fun _=>True) H' d v->Q v H'
def tF(f:DE->R (List D)):TE:=fun σ H Q=>∃g env os,Rel K g env σ H os/\Good E g.H₀ (f env) fun xs=>∀a vs H',aH H H'->H a=none->H' a=some (.lst vs)->IsL K (g.P (a::os)) H' xs vs->Q (.ref a) H'
def tL(f:DE->R (List D)):TE:=fun σ H Q=>∃g env os,Rel K g env σ H os/\Good E g.H₀ (f env) fun xs=>∀a vs H',aH H H'->ck K H' a vs->IsL K (g.P os) H' xs vs->Q (.ref a) H'
def tT(f:DE->R Bool):TT:=fun σ H Q=>∃g env os,Rel K g env σ H os/\Good E g.H₀ (f env) fun b=>∀H',aH H H'->Q b H'
def Hk(f:DE->R (List D)):TA:=fun σ H Q=>∃g env os,Rel K g env σ H os/\Good E g.H₀ (f env) fun ds=>∀vs H',aH H H'->IsL K (g.P os) H' ds vs->Q vs H'
def rF(f:DE->R (List D)):TA:=fun σ H Q=>∃g env os,Rel K g env σ H os/\Good E g.H₀ (f env) fun ds=>∀vs H',aH H H'->IsL K (fun _=>True) H' ds vs->Q vs H'
end
inductive Out where
 |nx (e:DE)|bk (e:DE)|ct (e:DE)|rt (d:D)|oF (xs:List D)|AU (nss:List (List Int))|Gr (nss:List (List Int))|Hl (q:Int×List Int)|Hm (c:Ct)
structure qW(H:Hp)(os:List Addr)(H':Hp)(fM:List Addr):Prop where
 own:∀a∈fM,a∈os\/H a=none
 grow:∀a,H' a=none->H a=none
 keep:∀a o,a∉os->H a=some o->H' a=some o
theorem qW.refl (H:Hp)(os:List Addr):qW H os H os:=⟨fun _ h=>.inl h,fun _ h=>h,fun _ _ _ h=>h⟩
theorem qW.same {H H':Hp}(s:aH H H')(os:List Addr):qW H os H' os:=⟨fun _ h=>.inl h,fun _ h=>s.free h,fun _ _ _ h=>s _ _ h⟩
theorem qW.trans {H H1 H2:Hp}{os Vu Mh:List Addr}(a:qW H os H1 Vu)(b:qW H1 Vu H2 Mh):qW H os H2 Mh where
 own:=fun x h=>(b.own x h).elim (fun z=>a.own x z) fun z=>.inr (a.grow x z)
 grow:=fun x h=>a.grow x (b.grow x h)
 keep:=fun x o hn h=>b.keep x o (fun z=>(a.own x z).elim hn fun q=>by rw[h]at q;cases q) (a.keep x o hn h)
theorem qW.ext {g:Gh}{H H':Hp}{os fM:List Addr}(s:qW H os H' fM):Ext (g.P os) (g.P fM) H H':=
 ⟨fun a o p h=>⟨p.1,fun z=>(s.own a z).elim p.2 fun q=>by rw[h]at q;cases q⟩,fun a o p h=>s.keep a o p.2 h⟩
structure Ij(hd:List V->HO)(H₀ H:Hp)(a:Addr)(as:List Addr)(nss:List (List Int)):Prop where
 fr:∀b∈a::as,H₀ b=none
 nd:(a::as).Nodup
 len:as.length=nss.length
 ha:H a=some (hd (as.map V.ref))
 it:∀(k:Nat)(b:Addr)(ns:List Int),as[k]?=some b->nss[k]?=some ns->H b=some (.lst (ns.map V.int))
theorem Ij.back {hd:List V->HO}{H₀ H1 H:Hp}{a:Addr}{as:List Addr}{nss:List (List Int)}(d:Ij hd H1 H a as nss)(s:aH H₀ H1):Ij hd H₀ H a as nss:=⟨fun b hb=>s.free (d.fr b hb),d.nd,d.len,d.ha,d.it⟩
abbrev Q1:=Ij HO.lst
abbrev Zm:=Ij HO.tup
structure Zn(H₀ H:Hp)(a b:Addr)(q:Int×List Int):Prop where
 fa:H₀ a=none
 fb:H₀ b=none
 ne:a≠b
 ha:H a=some (.tup [.int q.1,.ref b])
 hb:H b=some (.lst (q.2.map V.int))
def Zo(H₀ H:Hp)(a:Addr)(c:Ct):Prop:=∃as,(∀x∈a::as,H₀ x=none)/\Dp H (a::as) a as c
def dZ(K:PySem.W.Frag)(g:Gh)(H:Hp)(os:List Addr)(De:Ends):Out->Prop
 |.nx e=>∀σ' H' fM,Rel K g e σ' H' fM->qW H os H' fM->De.nx σ' H'
 |.bk e=>∀σ' H' fM,Rel K g e σ' H' fM->qW H os H' fM->De.bk σ' H'
 |.ct e=>∀σ' H' fM,Rel K g e σ' H' fM->qW H os H' fM->De.ct σ' H'
 |.rt d=>∀v H',aH g.H₀ H'->Is K (g.P []) H' d v->De.rt v H'
 |.oF xs=>∀a vs H',aH g.H₀ H'->g.H₀ a=none->H' a=some (.lst vs)->IsL K (g.P [a]) H' xs vs->De.rt (.ref a) H'
 |.Gr nss=>∀(a:Addr)(as:List Addr)(H':Hp),aH g.H₀ H'->Zm g.H₀ H' a as nss->De.rt (.ref a) H'
 |.Hl q=>∀(a b:Addr)(H':Hp),aH g.H₀ H'->Zn g.H₀ H' a b q->De.rt (.ref a) H'
 |.AU nss=>∀(a:Addr)(as:List Addr)(H':Hp),aH g.H₀ H'->Q1 g.H₀ H' a as nss->De.rt (.ref a) H'
 |.Hm c=>∀(a:Addr)(H':Hp),aH g.H₀ H'->Zo g.H₀ H' a c->De.rt (.ref a) H'
theorem dZ.step {K:PySem.W.Frag}{g:Gh}{H H1:Hp}{os Vu:List Addr}{De:Ends}(s:qW H os H1 Vu):∀{o:Out},dZ K g H os De o->dZ K g H1 Vu De o
 |.nx e,h=>fun σ' H' fM r z=>h σ' H' fM r (s.trans z)
 |.bk e,h=>fun σ' H' fM r z=>h σ' H' fM r (s.trans z)
 |.ct e,h=>fun σ' H' fM r z=>h σ' H' fM r (s.trans z)
 |.rt d,h=>h
 |.oF xs,h=>h
 |.Gr xs,h=>h
 |.Hl xs,h=>h
 |.AU xs,h=>h
 |.Hm xs,h=>h
def tS(K:PySem.W.Frag)(E:Str->Hp->Prop)(f:DE->R Out):TS:=fun De σ H=>∃g env os,Rel K g env σ H os/\Good E g.H₀ (f env) (dZ K g H os De)
section
variable{X:Cx}{E:Str->Hp->Prop}{pos:Pos}
theorem imp{e:Expr}{t t':TE}(h:PE X e t)(w:∀σ H Q,t' σ H Q->t σ H Q):PE X e t':=fun pins s σ H Q I q=>h pins s σ H Q I (w σ H Q q)
theorem Q2{e:Expr}{t t':TT}(h:PT X e t)(w:∀σ H Q,t' σ H Q->t σ H Q):PT X e t':=fun pins s σ H Q I q=>h pins s σ H Q I (w σ H Q q)
theorem Vv{e:Expr}{t t':TT}(h:PW X e t)(w:∀σ H Q,t' σ H Q->t σ H Q):PW X e t':=fun wh pins s σ H Q I q=>h wh pins s σ H Q I (w σ H Q q)
theorem Ik{e:List Expr}{t t':TA}(h:PA X e t)(w:∀σ H Q,t' σ H Q->t σ H Q):PA X e t':=fun pos pins s σ H Q I q=>h pos pins s σ H Q I (w σ H Q q)
theorem oQ{e:Stmt}{t t':TS}(h:PS X e t)(w:∀De σ H,t' De σ H->t De σ H):PS X e t':=fun pins s σ H Q I q=>h pins s σ H Q I (w Q σ H q)
theorem N9{e:List Stmt}{t t':TS}(h:qD X e t)(w:∀De σ H,t' De σ H->t De σ H):qD X e t':=fun pins s σ H Q I q=>h pins s σ H Q I (w Q σ H q)
def bQ(i:Nat)(env:DE):R D:=match env[i]? with
 |some (.val d)=>.ok d
 |_=>.bad
def dT(t:Mf):D:=.tup [.int t.1,.int t.2.1,.lst (t.2.2.map .int)]
def bf(i:Nat)(env:DE):R D:=match env[i]? with
 |some (.val d)=>.ok d
 |some (.own xs)=>.ok (.lst xs)
 |some (.deep (.ls nss))=>.ok (.lst (nss.map fun ns=>.lst (ns.map .int)))
 |some (.deep (.tp nss))=>.ok (.tup (nss.map fun ns=>.lst (ns.map .int)))
 |some (.deep (.tq n ns))=>.ok (.tup [.int n,.lst (ns.map .int)])
 |some (.deep (.tr ts))=>.ok (.lst (ts.map dT))
 |_=>.bad
theorem bW{K:PySem.W.Frag}{P:Addr->Prop}{H:Hp}:∀(ns:List Int),IsL K P H (ns.map D.int) (ns.map V.int)
 |[]=>rfl
 |n::ns=>⟨_,_,rfl,rfl,bW ns⟩
theorem wI{K:PySem.W.Frag}{H:Hp}{os:List Addr}:∀{as:List Addr}{nss:List (List Int)},as.length=nss.length->(∀(k:Nat)(b:Addr)(ns:List Int),as[k]?=some b->nss[k]?=some ns->b∈os/\H b=some (.lst (ns.map V.int)))->IsL K (fun _=>True) H (nss.map fun ns=>.lst (ns.map D.int)) (as.map V.ref)
 |[],[],_,_=>rfl
 |[],_::_,h,_=>by simp at h
 |_::_,[],h,_=>by simp at h
 |a::as,ns::nss,h,hi=>⟨_,_,rfl,⟨a,_,rfl,.inl ⟨trivial,.inl (hi 0 a ns rfl rfl).2⟩,bW ns⟩,wI (by simpa using h) fun k b ms e1 e2=>hi (k+1) b ms e1 e2⟩
theorem AV{K:PySem.W.Frag}{P:Addr->Prop}{H:Hp}{as:List Addr}(hp:∀x∈as,P x):∀{ts:List Mf}{vs:List V},vs.length=ts.length->(∀(k:Nat)(t:Mf)(v:V),ts[k]?=some t->vs[k]?=some v->Vt H as t v)->IsL K P H (ts.map dT) vs
 |[],[],_,_=>rfl
 |[],_::_,h,_=>by simp at h
 |_::_,[],h,_=>by simp at h
 |t::ts,v::vs,h,hi=>by
  obtain⟨b,c,rfl,h1,h2,h3,h4⟩:=hi 0 t v rfl rfl
  exact⟨_,_,rfl,⟨b,_,rfl,.inl ⟨hp b h1,.inl h3⟩,⟨_,_,rfl,rfl,⟨_,_,rfl,rfl,⟨_,_,rfl,⟨c,_,rfl,.inl ⟨hp c h2,.inl h4⟩,bW t.2.2⟩,rfl⟩⟩⟩⟩,AV hp (by simpa using h) fun k t v e1 e2=>hi (k+1) t v e1 e2⟩
def nz(i:Nat)(env:DE):R (List D):=match env[i]? with
 |some (.val (.lst xs))=>.ok xs
 |some (.own xs)=>.ok xs
 |_=>.bad
theorem nD(i:Nat){x:Str}(hN:X.N[i]?=some x:=by rfl)(hv:wz X.env.scope x:=by first|exact Or.inl rfl|exact Or.inr (Or.inl rfl)|exact Or.inr (Or.inr rfl))(hd:(x==("__debug__":Str))=false:=by decide)
  (hcd:(x==("__classdict__":Str))=false:=by decide):PE X (.Name x pos) (tD X.K E (bQ i)):=imp (gW hN hv hd hcd) fun σ H Q ⟨g,env,os,r,m⟩=>by
 unfold bQ at m
 cases e:env[i]? with
 |none=>rw[e]at m;exact m.elim
 |some sl=>
  cases sl with
  |no=>rw[e]at m;exact m.elim
  |raw _=>rw[e]at m;exact m.elim
  |deep _=>rw[e]at m;exact m.elim
  |own xs=>rw[e]at m;exact m.elim
  |val d=>
   rw[e]at m
   obtain⟨v,h1,h2⟩:=r.val i d e
   exact⟨v,h1,m v H (aH.refl H) h2⟩
theorem nB(i:Nat){x:Str}(hN:X.N[i]?=some x:=by rfl)(hv:wz X.env.scope x:=by first|exact Or.inl rfl|exact Or.inr (Or.inl rfl)|exact Or.inr (Or.inr rfl))(hd:(x==("__debug__":Str))=false:=by decide)
  (hcd:(x==("__classdict__":Str))=false:=by decide):PE X (.Name x pos) (tB X.K E (bf i)):=imp (gW hN hv hd hcd) fun σ H Q ⟨g,env,os,r,m⟩=>by
 unfold bf at m
 cases e:env[i]? with
 |none=>rw[e]at m;exact m.elim
 |some sl=>
  cases sl with
  |no=>rw[e]at m;exact m.elim
  |raw _=>rw[e]at m;exact m.elim
  |own xs=>
   rw[e]at m
   obtain⟨a,vs,h1,_,h3,h4⟩:=r.own i xs e
   exact⟨.ref a,h1,m _ H (aH.refl H) ⟨a,vs,rfl,.inl ⟨trivial,.inl h3⟩,h4.weak⟩⟩
  |deep c=>
   obtain⟨A,dd⟩:=r.Ii
   obtain⟨a,as,_,h1,h3⟩:=dd.dp i c e
   cases c with
   |ls nss=>
    rw[e]at m
    exact⟨.ref a,h1,m _ H (aH.refl H) ⟨a,_,rfl,.inl ⟨trivial,.inl h3.ha⟩,wI h3.len h3.it⟩⟩
   |tp nss=>
    rw[e]at m
    have h4:Ao HO.tup H os a as nss:=h3
    exact⟨.ref a,h1,m _ H (aH.refl H) ⟨a,_,rfl,.inl ⟨trivial,.inl h4.ha⟩,wI h4.len h4.it⟩⟩
   |dk ks=>rw[e]at m;exact m.elim
   |tq n ns=>
    rw[e]at m
    obtain⟨b,_,_,_,_,h4,h5⟩:=h3
    exact⟨.ref a,h1,m _ H (aH.refl H) ⟨a,_,rfl,.inl ⟨trivial,.inl h4⟩,⟨_,_,rfl,rfl,⟨_,_,rfl,⟨b,_,rfl,.inl ⟨trivial,.inl h5⟩,bW ns⟩,rfl⟩⟩⟩⟩
   |tr ts=>
    rw[e]at m
    have h4:Q0 H os a as ts:=h3
    obtain⟨vs,q1,q2,q3⟩:=h4.at_
    exact⟨.ref a,h1,m _ H (aH.refl H) ⟨a,_,rfl,.inl ⟨trivial,.inl q1⟩,AV (fun _ _=>trivial) q2 q3⟩⟩
  |val d=>
   rw[e]at m
   obtain⟨v,h1,h2⟩:=r.val i d e
   exact⟨v,h1,m v H (aH.refl H) h2.weak⟩
theorem nL(i:Nat){x:Str}(hN:X.N[i]?=some x:=by rfl)(hv:wz X.env.scope x:=by first|exact Or.inl rfl|exact Or.inr (Or.inl rfl)|exact Or.inr (Or.inr rfl))(hd:(x==("__debug__":Str))=false:=by decide)
  (hcd:(x==("__classdict__":Str))=false:=by decide):PE X (.Name x pos) (tL X.K E (nz i)):=imp (gW hN hv hd hcd) fun σ H Q ⟨g,env,os,r,m⟩=>by
 unfold nz at m
 cases e:env[i]? with
 |none=>rw[e]at m;exact m.elim
 |some sl=>
  cases sl with
  |no=>rw[e]at m;exact m.elim
  |raw _=>rw[e]at m;exact m.elim
  |deep _=>rw[e]at m;exact m.elim
  |own xs=>
   rw[e]at m
   obtain⟨a,vs,h1,_,h3,h4⟩:=r.own i xs e
   exact⟨.ref a,h1,m _ _ H (aH.refl H) (ck.of h3) h4⟩
  |val d=>
   cases d with
   |lst xs=>
    rw[e]at m
    obtain⟨v,h1,a,vs,rfl,h3,h4⟩:=r.val i _ e
    exact⟨_,h1,m _ _ H (aH.refl H) h3.sq h4⟩
   |non=>rw[e]at m;exact m.elim
   |bl _=>rw[e]at m;exact m.elim
   |int _=>rw[e]at m;exact m.elim
   |str _=>rw[e]at m;exact m.elim
   |exc _=>rw[e]at m;exact m.elim
   |fn _=>rw[e]at m;exact m.elim
   |tup _=>rw[e]at m;exact m.elim
theorem cI{i j}:PE X (.Constant (.int i) j pos) (tD X.K E fun _=>.ok (.int i)):=imp gX fun σ H Q ⟨g,env,os,r,m⟩=>m _ H (aH.refl H) rfl
theorem Hn{i j}:PE X (.Constant (.bool i) j pos) (tD X.K E fun _=>.ok (.bl i)):=imp UM fun σ H Q ⟨g,env,os,r,m⟩=>m _ H (aH.refl H) rfl
theorem cN{j}:PE X (.Constant .none j pos) (tD X.K E fun _=>.ok .non):=imp HC fun σ H Q ⟨g,env,os,r,m⟩=>m _ H (aH.refl H) rfl
theorem PE.aF {e:Expr}{f:DE->R D}(h:PE X e (tD X.K E f)):PE X e (tB X.K E f):=imp h fun σ H Q ⟨g,env,os,r,m⟩=>⟨g,env,os,r,m.mono fun d _ q v H' s i=>q v H' s i.weak⟩
theorem PE.dz {e:Expr}{f:DE->R (List D)}(h:PE X e (tF X.K E f)):PE X e (tD X.K E fun env=>(f env).bind fun xs=>.ok (.lst xs)):=imp h fun σ H Q ⟨g,env,os,r,m⟩=>⟨g,env,os,r,m.bind.mono fun d _ q a vs H' s hn hH i=>by
 refine q _ H' s ⟨a,vs,rfl,.inl ⟨r.fresh hn,.inl hH⟩,IsL.ext ⟨fun b o p _=>⟨p.1,fun z=>p.2 (mem_cons_of_mem _ z)⟩,fun _ _ _ q=>q⟩ _ _ i⟩⟩
theorem PE.AW {e:Expr}{f:DE->R (List D)}(h:PE X e (tF X.K E f)):PE X e (tL X.K E f):=imp h fun σ H Q ⟨g,env,os,r,m⟩=>⟨g,env,os,r,m.mono fun d _ q a vs H' s hn hH i=>
 q _ vs H' s (ck.of hH) (IsL.ext ⟨fun b o p _=>⟨p.1,fun z=>p.2 (mem_cons_of_mem _ z)⟩,fun _ _ _ q=>q⟩ _ _ i)⟩
def t8:D->R (List D)
 |.lst xs=>.ok xs
 |_=>.bad
theorem PE.Zp {e:Expr}{f:DE->R D}(h:PE X e (tD X.K E f)):PE X e (tL X.K E fun env=>(f env).bind t8):=imp h fun σ H Q ⟨g,env,os,r,m⟩=>⟨g,env,os,r,m.bind.mono fun d _ q v H' s i=>by
 cases d with
 |lst xs=>
  obtain⟨a,vs,rfl,h3,h4⟩:=i
  exact q a vs H' s h3.sq h4
 |non=>exact q.elim
 |bl _=>exact q.elim
 |int _=>exact q.elim
 |str _=>exact q.elim
 |exc _=>exact q.elim
 |fn _=>exact q.elim
 |tup _=>exact q.elim⟩
abbrev Tr:Addr->Prop:=fun _=>True
def oU(X:Cx)(r:R2)(k:D->D->Option D):Prop:=∀x y d,k x y=some d->∃z,toV d=some z/\∀H v w (Q:VK),Is X.K Tr H x v->Is X.K Tr H y w->Q z H->r v w H Q
theorem bx{op:Operator}{r:R2}{a b:Expr}{fa fb:DE->R D}{k:D->D->Option D}(ho:tQ X (binaryOp op) r)(hk:oU X r k)(ha:PE X a (tB X.K E fa))(hb:PE X b (tB X.K E fb)):
  PE X (.BinOp a op b pos) (tD X.K E fun env=>(fa env).bind fun x=>(fb env).bind fun y=>R.of (k x y)):=
 imp (qF ho ha hb) fun σ H Q ⟨g,env,os,r,m⟩=>⟨g,env,os,r,m.bind.mono fun x _ m1 v H1 s1 i1=>⟨g,env,os,r.same s1,m1.bind.mono fun y _ m2 w H2 s2 i2=>by
  obtain⟨d,e,q⟩:=m2.of
  obtain⟨z,hz,hk⟩:=hk x y d e
  exact hk H2 v w Q (i1.same s2) i2 (q z H2 (s1.trans s2) (Is.sc hz))⟩⟩
theorem Q3{op:CmpOp}{r:R2}{a b:Expr}{fa fb:DE->R D}{k:D->D->Option D}(ho:tQ X (compareOp op) r)(hk:oU X r k)(ha:PE X a (tB X.K E fa))(hb:PE X b (tB X.K E fb))(hm:behindInMarks op b=false):
  PE X (.Compare a [op] [b] pos) (tD X.K E fun env=>(fa env).bind fun x=>(fb env).bind fun y=>R.of (k x y)):=
 imp (LX ho ha hb hm) fun σ H Q ⟨g,env,os,r,m⟩=>⟨g,env,os,r,m.bind.mono fun x _ m1 v H1 s1 i1=>⟨g,env,os,r.same s1,m1.bind.mono fun y _ m2 w H2 s2 i2=>by
  obtain⟨d,e,q⟩:=m2.of
  obtain⟨z,hz,hk⟩:=hk x y d e
  exact hk H2 v w Q (i1.same s2) i2 (q z H2 (s1.trans s2) (Is.sc hz))⟩⟩
def iM:D->R Bool
 |.bl b=>.ok b
 |_=>.bad
theorem bB{op:CmpOp}{r:R2}{a b:Expr}{fa fb:DE->R D}{k:D->D->Option D}(ho:tQ X (compareOp op) r)(hk:oU X r k)(ha:PE X a (tB X.K E fa))(hb:PE X b (tB X.K E fb))(hm:behindInMarks op b=false):
  PT X (.Compare a [op] [b] pos) (tT X.K E fun env=>(fa env).bind fun x=>(fb env).bind fun y=>(R.of (k x y)).bind iM):=
 Q2 (jV ho ha hb hm) fun σ H Q ⟨g,env,os,r,m⟩=>⟨g,env,os,r,m.bind.mono fun x _ m1 v H1 s1 i1=>⟨g,env,os,r.same s1,m1.bind.mono fun y _ m2 w H2 s2 i2=>by
  obtain⟨d,e,q⟩:=m2.bind.of
  obtain⟨z,hz,hk⟩:=hk x y d e
  refine hk H2 v w _ (i1.same s2) i2 ?_
  cases d with
  |bl b=>
   cases hz
   exact⟨b,rfl,q H2 (s1.trans s2)⟩
  |non=>exact q.elim
  |lst _=>exact q.elim
  |int _=>exact q.elim
  |str _=>exact q.elim
  |exc _=>exact q.elim
  |fn _=>exact q.elim
  |tup _=>exact q.elim⟩⟩
def Vw(X:Cx)(r:V->Hp->VK->Prop)(k:D->Option D):Prop:=∀x d,k x=some d->∃z,toV d=some z/\∀H v (Q:VK),Is X.K Tr H x v->Q z H->r v H Q
theorem Il{op:UnaryOp}{r:V->Hp->VK->Prop}{a:Expr}{fa:DE->R D}{k:D->Option D}(ho:U1 X (unaryOp op) r)(hk:Vw X r k)(ha:PE X a (tB X.K E fa)):
  PE X (.UnaryOp op a pos) (tD X.K E fun env=>(fa env).bind fun x=>R.of (k x)):=
 imp (DZ ho ha) fun σ H Q ⟨g,env,os,r,m⟩=>⟨g,env,os,r,m.bind.mono fun x _ m1 v H1 s1 i1=>by
  obtain⟨d,e,q⟩:=m1.of
  obtain⟨z,hz,hk⟩:=hk x d e
  exact hk H1 v Q i1 (q z H1 s1 (Is.sc hz))⟩
def gZ:D->D->Option D
 |.int i,.int j=>some (.int (i-j))
 |_,_=>none
def Gs:D->D->Option D
 |.int i,.int j=> @ite _ ((-(2^64)<i/\i<2^64)\/(-(2^64)<j/\j<2^64)) (propDecidable _) (some (.int (i*j))) (none)
 |_,_=>none
def AX:D->D->Option D
 |.int i,.int j=> @ite _ (0<j/\j<1073741824) (propDecidable _) (some (.int (i/j))) (none)
 |_,_=>none
def qz:D->D->Option D
 |.int i,.int j=> @ite _ (0<j) (propDecidable _) (some (.int (i%j))) (none)
 |_,_=>none
def Im:D->D->Option D
 |.int i,.int j=> @ite _ (0<=j/\j<=1000000/\i.natAbs<2^64) (propDecidable _) (some (.int (i^j.toNat))) (none)
 |_,_=>none
def rG:D->Option D
 |.int i=>some (.int (-i))
 |_=>none
def Io:D->D->Option D
 |.int i,.int j=>some (.bl (decide (i<j)))
 |_,_=>none
def XW:D->D->Option D
 |.int i,.int j=>some (.bl (decide (i<=j)))
 |_,_=>none
def Cq:D->D->Option D
 |.int i,.int j=>some (.bl (decide (j<i)))
 |_,_=>none
def kGe:D->D->Option D
 |.int i,.int j=>some (.bl (decide (j<=i)))
 |_,_=>none
theorem o8{g:Int->Int->V}{h:Int->Int->D}{k:D->D->Option D}(hg:∀i j,toV (h i j)=some (g i j))(hk:∀x y d,k x y=some d->∃i j,x=.int i/\y=.int j/\d=h i j):oU X (DY g) k:=fun x y d e=>by
 obtain⟨i,j,rfl,rfl,rfl⟩:=hk x y d e
 refine⟨g i j,hg i j,fun H v w Q h1 h2 q=>⟨i,j,h1,h2,q⟩⟩
theorem rH{C:Int->Int->Prop}{g:Int->Int->V}{h:Int->Int->D}{k:D->D->Option D}(hg:∀i j,toV (h i j)=some (g i j))(hk:∀x y d,k x y=some d->∃i j,x=.int i/\y=.int j/\C i j/\d=h i j):oU X (rI C g) k:=fun x y d e=>by
 obtain⟨i,j,rfl,rfl,c,rfl⟩:=hk x y d e
 refine⟨g i j,hg i j,fun H v w Q h1 h2 q=>⟨i,j,h1,h2,c,q⟩⟩
theorem bw:oU X (DY fun i j=>.int (i-j)) gZ:=o8 (h:=fun i j=>.int (i-j)) (fun _ _=>rfl) fun x y d e=>by
 unfold gZ at e
 split at e<;>cases e
 exact⟨_,_,rfl,rfl,rfl⟩
theorem o9:oU X (DY fun i j=>.bl (decide (i<j))) Io:=o8 (h:=fun i j=>.bl (decide (i<j))) (fun _ _=>rfl) fun x y d e=>by
 unfold Io at e
 split at e<;>cases e
 exact⟨_,_,rfl,rfl,rfl⟩
theorem Q4:oU X (DY fun i j=>.bl (decide (i<=j))) XW:=o8 (h:=fun i j=>.bl (decide (i<=j))) (fun _ _=>rfl) fun x y d e=>by
 unfold XW at e
 split at e<;>cases e
 exact⟨_,_,rfl,rfl,rfl⟩
theorem iR:oU X (DY fun i j=>.bl (decide (j<i))) Cq:=o8 (h:=fun i j=>.bl (decide (j<i))) (fun _ _=>rfl) fun x y d e=>by
 unfold Cq at e
 split at e<;>cases e
 exact⟨_,_,rfl,rfl,rfl⟩
theorem zt:oU X (rI LR fun i j=>.int (i*j)) Gs:=rH (h:=fun i j=>.int (i*j)) (fun _ _=>rfl) fun x y d e=>by
 unfold Gs at e
 split at e
 ·split at e
  ·rename_i i j c
   cases e
   exact⟨i,j,rfl,rfl,c,rfl⟩
  ·cases e
 ·cases e
theorem rJ:oU X (rI U5 fun i j=>.int (i/j)) AX:=rH (h:=fun i j=>.int (i/j)) (fun _ _=>rfl) fun x y d e=>by
 unfold AX at e
 split at e
 ·split at e
  ·rename_i i j c
   cases e
   exact⟨i,j,rfl,rfl,c,rfl⟩
  ·cases e
 ·cases e
theorem gg:oU X (rI (fun _ j=>0<j) fun i j=>.int (i%j)) qz:=rH (h:=fun i j=>.int (i%j)) (fun _ _=>rfl) fun x y d e=>by
 unfold qz at e
 split at e
 ·split at e
  ·rename_i i j c
   cases e
   exact⟨i,j,rfl,rfl,c,rfl⟩
  ·cases e
 ·cases e
theorem Mi:oU X (rI Ga fun i j=>.int (i^j.toNat)) Im:=rH (h:=fun i j=>.int (i^j.toNat)) (fun _ _=>rfl) fun x y d e=>by
 unfold Im at e
 split at e
 ·split at e
  ·rename_i i j c
   cases e
   exact⟨i,j,rfl,rfl,c,rfl⟩
  ·cases e
 ·cases e
theorem g4:Vw X (rU fun i=>.int (-i)) rG:=fun x d e=>by
 unfold rG at e
 split at e<;>cases e
 exact⟨_,rfl,fun H v Q h1 q=>⟨_,h1,q⟩⟩
theorem rK{a:Expr}{f:DE->R Bool}(h:PT X a (tT X.K E f)):PT X (.UnaryOp .Not a pos) (tT X.K E fun env=>(f env).bind fun b=>.ok (!b)):=
 Q2 (Qu h) fun σ H Q ⟨g,env,os,r,m⟩=>⟨g,env,os,r,m.bind.mono fun b _ q H' s=>q H' s⟩
theorem AY{a:Expr}{f:DE->R Bool}(h:PT X a (tT X.K E f)):PW X (.BoolOp .And [a] pos) (tT X.K E f):=pw_and1 h
theorem yc{a:Expr}{f:DE->R Bool}(h:PT X a (tT X.K E f)):PW X (.BoolOp .Or [a] pos) (tT X.K E f):=pw_or1 h
theorem yH{a b:Expr}{rest:List Expr}{f k:DE->R Bool}(h:PT X a (tT X.K E f))(h2:PW X (.BoolOp .And (b::rest) pos) (tT X.K E k)):PW X (.BoolOp .And (a::b::rest) pos) (tT X.K E fun env=>(f env).bind fun t=>if t=true then k env else .ok false):=
 Vv (pw_and h h2) fun σ H Q ⟨g,env,os,r,m⟩=>⟨g,env,os,r,m.bind.mono fun t _ q H' s=>by
  cases t with
  |true=>exact⟨g,env,os,r.same s,Good.mono (show Good E g.H₀ (k env) _ from q) fun b _ q2 H2 s2=>q2 H2 (s.trans s2)⟩
  |false=>exact q H' s⟩
theorem qX{a b:Expr}{rest:List Expr}{f k:DE->R Bool}(h:PT X a (tT X.K E f))(h2:PW X (.BoolOp .Or (b::rest) pos) (tT X.K E k)):PW X (.BoolOp .Or (a::b::rest) pos) (tT X.K E fun env=>(f env).bind fun t=>if t=true then .ok true else k env):=
 Vv (pw_or h h2) fun σ H Q ⟨g,env,os,r,m⟩=>⟨g,env,os,r,m.bind.mono fun t _ q H' s=>by
  cases t with
  |false=>exact⟨g,env,os,r.same s,Good.mono (show Good E g.H₀ (k env) _ from q) fun b _ q2 H2 s2=>q2 H2 (s.trans s2)⟩
  |true=>exact q H' s⟩
theorem vx{e:Expr}{f:DE->R D}(h:PE X e (tB X.K E f))(he:∀whole,isTrue e X.env whole=(do let v<-whole;standAt e.pos;holding [v] (truthy v)):=by intro _;rfl):PT X e (tT X.K E fun env=>(f env).bind iM):=
 Q2 (Qt h he) fun σ H Q ⟨g,env,os,r,m⟩=>⟨g,env,os,r,m.bind.mono fun d _ q v H' s i=>by
  cases d with
  |bl b=>exact⟨b,i,q H' s⟩
  |non=>exact q.elim
  |lst _=>exact q.elim
  |int _=>exact q.elim
  |str _=>exact q.elim
  |exc _=>exact q.elim
  |fn _=>exact q.elim
  |tup _=>exact q.elim⟩
theorem Zq{op}{a:Expr}{f:DE->R D}(h:PE X a (tD X.K E f)):PE X (.BoolOp op [a] pos) (tD X.K E f):=Qw h
theorem Zs{a b:Expr}{rest:List Expr}{f k:DE->R D}(h:PE X a (tB X.K E f))(h2:PE X (.BoolOp .And (b::rest) pos) (tD X.K E k)):PE X (.BoolOp .And (a::b::rest) pos) (tD X.K E fun env=>(f env).bind fun x=>(iM x).bind fun t=>if t=true then k env else .ok (.bl false)):=
 imp (Qx h h2) fun σ H Q ⟨g,env,os,r,m⟩=>⟨g,env,os,r,m.bind.mono fun d _ q v H' s i=>by
  cases d with
  |bl b=>
   refine⟨b,i,?_⟩
   cases b with
   |true=>
    rw[if_pos rfl]
    exact⟨g,env,os,r.same s,Good.mono (show Good E g.H₀ (k env) _ from q) fun b _ q2 v2 H2 s2 i2=>q2 v2 H2 (s.trans s2) i2⟩
   |false=>
    rw[if_neg Bool.false_ne_true]
    exact q _ H' s rfl
  |non=>exact q.elim
  |lst _=>exact q.elim
  |int _=>exact q.elim
  |str _=>exact q.elim
  |exc _=>exact q.elim
  |fn _=>exact q.elim
  |tup _=>exact q.elim⟩
theorem vIf{c a b:Expr}{fc:DE->R Bool}{fa fb:DE->R D}(hc:PT X c (tT X.K E fc))(ha:PE X a (tD X.K E fa))(hb:PE X b (tD X.K E fb)):PE X (.IfExp c a b pos) (tD X.K E fun env=>(fc env).bind fun t=>if t=true then fa env else fb env):=
 imp (HE hc ha hb) fun σ H Q ⟨g,env,os,r,m⟩=>⟨g,env,os,r,m.bind.mono fun t _ q H' s=>by
  cases t with
  |true=>
   rw[if_pos rfl]
   exact⟨g,env,os,r.same s,Good.mono (show Good E g.H₀ (fa env) _ from q) fun b _ q2 v2 H2 s2 i2=>q2 v2 H2 (s.trans s2) i2⟩
  |false=>
   rw[if_neg Bool.false_ne_true]
   exact⟨g,env,os,r.same s,Good.mono (show Good E g.H₀ (fb env) _ from q) fun b _ q2 v2 H2 s2 i2=>q2 v2 H2 (s.trans s2) i2⟩⟩
theorem bG:PA X [] (Hk X.K E fun _=>.ok []):=Ik aJ fun σ H Q ⟨g,env,os,r,m⟩=>m [] H (aH.refl H) rfl
theorem bC:PA X [] (rF X.K E fun _=>.ok []):=Ik aJ fun σ H Q ⟨g,env,os,r,m⟩=>m [] H (aH.refl H) rfl
theorem aB{e:Expr}{es:List Expr}{f:DE->R D}{k:DE->R (List D)}(ha:PE X e (tD X.K E f))(hr:PA X es (Hk X.K E k))(hs:starEach (e::es) X.env=(false,eval e X.env)::starEach es X.env:=by rfl):
  PA X (e::es) (Hk X.K E fun env=>(f env).bind fun x=>(k env).bind fun xs=>.ok (x::xs)):=
 Ik (aw ha hr hs) fun σ H Q ⟨g,env,os,r,m⟩=>⟨g,env,os,r,m.bind.mono fun x _ m1 v H1 s1 i1=>⟨g,env,os,r.same s1,m1.bind.mono fun xs _ m2 vs H2 s2 i2=>m2 (v::vs) H2 (s1.trans s2) (.cons (i1.same s2) i2)⟩⟩
theorem aE{e:Expr}{es:List Expr}{f:DE->R D}{k:DE->R (List D)}(ha:PE X e (tB X.K E f))(hr:PA X es (rF X.K E k))(hs:starEach (e::es) X.env=(false,eval e X.env)::starEach es X.env:=by rfl):
  PA X (e::es) (rF X.K E fun env=>(f env).bind fun x=>(k env).bind fun xs=>.ok (x::xs)):=
 Ik (aw ha hr hs) fun σ H Q ⟨g,env,os,r,m⟩=>⟨g,env,os,r,m.bind.mono fun x _ m1 v H1 s1 i1=>⟨g,env,os,r.same s1,m1.bind.mono fun xs _ m2 vs H2 s2 i2=>m2 (v::vs) H2 (s1.trans s2) (.cons (i1.same s2) i2)⟩⟩
def fit{α:Type}(xs:List α):R (List α):= @ite _ (xs.length<=sizeLine) (propDecidable _) (.ok xs) (.bad)
theorem Good.fit {α:Type}{H₀:Hp}{xs:List α}{p:List α->Prop}(h:Good E H₀ (fit xs) p):xs.length<=sizeLine/\p xs:=by
 unfold DL.fit at h
 split at h
 ·rename_i c
  exact⟨c,h⟩
 ·exact h.elim
theorem CT{K:PySem.W.Frag}{g:Gh}{env:DE}{σ:St}{H H1:Hp}{os:List Addr}{ds:List D}{vs:List V}{p:Addr}(r:Rel K g env σ H os)(s1:aH H H1)(hp:H1 p=none)(i:IsL K (g.P os) H1 ds vs):
  aH H (upd H1 p (.lst vs))/\H p=none/\upd H1 p (.lst vs) p=some (.lst vs)/\IsL K (g.P (p::os)) (upd H1 p (.lst vs)) ds vs:=
 ⟨s1.trans (aI hp _),s1.free hp,ar,IsL.ext ((r.same s1).apart (aI hp _) hp) _ _ i⟩
theorem rL{es:List Expr}{f:DE->R (List D)}(h:PA X es (Hk X.K E f)):PE X (.List es pos) (tF X.K E fun env=>(f env).bind fit):=
 imp (tV h) fun σ H Q ⟨g,env,os,r,m⟩=>⟨g,env,os,r,m.bind.mono fun ds _ m1 vs H1 s1 i1=>by
  obtain⟨z,q⟩:=m1.fit
  refine⟨by rw[i1.length];exact z,fun p hp=>?_⟩
  obtain⟨a1,a2,a3,a4⟩:=CT r s1 hp i1
  exact q p vs _ a1 a2 a3 a4⟩
theorem Ip{es:List Expr}{x1}{f:DE->R (List D)}(h:PA X es (Hk X.K E f)):PE X (.Tuple es x1 pos) (tD X.K E fun env=>((f env).bind fit).bind fun ds=>.ok (.tup ds)):=
 imp (tU h) fun σ H Q ⟨g,env,os,r,m⟩=>⟨g,env,os,r,m.bind.bind.mono fun ds _ m1 vs H1 s1 i1=>by
  obtain⟨z,q⟩:=m1.fit
  refine⟨by rw[i1.length];exact z,fun p hp=>?_⟩
  exact q _ _ (s1.trans (aI hp _)) ⟨p,vs,rfl,.inl ⟨(r.same s1).fresh hp,.inl ar⟩,i1.same (aI hp _)⟩⟩
end
section
variable{X:Cx}{E:Str->Hp->Prop}{pos:Pos}
def Vx(K:PySem.W.Frag):R2:=fun x y H Q=>∃l b xs zs,x=.ref l/\y=.ref b/\ck K H l xs/\ck K H b zs/\xs.length+zs.length<=sizeLine/\∀p,H p=none->Q (.ref p) (upd H p (.lst (xs++zs)))
theorem Mj:tQ X (binaryOp .Add) (Vx X.K):=by
 intro pins s σ H x y v u Q I rx ry h
 obtain⟨l,b,xs,zs,rfl,rfl,hH,hB,hz,q⟩:=h
 cases rx
 cases ry
 obtain⟨its,r,p1,z1⟩:=I.list hH
 obtain⟨its2,r2,p2,z2⟩:=I.list hB
 have hl:=r.length
 have hl2:=r2.length
 obtain⟨o1,n1,e1,c1,d1,t1⟩:=p1
 obtain⟨o2,n2,e2,c2,d2,t2⟩:=p2
 obtain⟨oc,od,oda,Hj⟩:=o1
 obtain⟨oc2,od2,Zt,Zu⟩:=o2
 have c1':oc=_:=c1
 have d1':od=_:=d1
 have t1':oda=_:=t1
 have c2':oc2=_:=c2
 have d2':od2=_:=d2
 have t2':Zt=_:=t2
 subst c1' d1' t1' c2' d2' t2'
 have ea:its.toArray++its2.toArray=(its++its2).toArray:=by simp
 refine concat_meets ⟨_,e1,rfl⟩ ⟨_,e2,rfl⟩ noFill_list_add seq_list_add PySem.F.slot_list_add PySem.F.entry_list_add (PySem.F.args_list_add_2 _ _) (list_addW l b its.toArray its2.toArray n1 n2 none none Hj Zu (by rw[size_toArray,size_toArray];omega)) ⟨e1,e2,?_⟩
 rw[ea]
 exact⟨.ref _,_,I.Vk (t':=s.toks) (r.append r2) (by rw[length_append];omega),rfl,q _ I.fresh⟩
theorem Ml{a b:Expr}{fa fb:DE->R (List D)}(ha:PE X a (tL X.K E fa))(hb:PE X b (tL X.K E fb)):PE X (.BinOp a .Add b pos) (tF X.K E fun env=>(fa env).bind fun x=>(fb env).bind fun y=>fit (x++y)):=
 imp (qF Mj ha hb) fun σ H Q ⟨g,env,os,r,m⟩=>⟨g,env,os,r,m.bind.mono fun x _ m1 a1 v1 H1 s1 q1 i1=>⟨g,env,os,r.same s1,m1.bind.mono fun y _ m2 a2 v2 H2 s2 q2 i2=>by
  obtain⟨z,q⟩:=m2.fit
  rw[length_append]at z
  refine⟨a1,a2,v1,v2,rfl,rfl,s2.seq q1,q2,by rw[i1.length,i2.length];exact z,fun p hp=>?_⟩
  obtain⟨b1,b2,b3,b4⟩:=CT r (s1.trans s2) hp ((i1.same s2).app i2)
  exact q p _ _ b1 b2 b3 b4⟩⟩
def tO(K:PySem.W.Frag)(E:Str->Hp->Prop)(f:DE->R (Option Int)):TO:=fun σ H Q=>∃g env os,Rel K g env σ H os/\Good E g.H₀ (f env) fun o=>∀H',aH H H'->Q o H'
theorem Vy{e:Option Expr}{t t':TO}(h:L2.PO X e t)(w:∀σ H Q,t' σ H Q->t σ H Q):L2.PO X e t':=fun pins s σ H Q I q=>h pins s σ H Q I (w σ H Q q)
theorem XX:L2.PO X none (tO X.K E fun _=>.ok none):=Vy D0 fun σ H Q ⟨g,env,os,r,m⟩=>m H (aH.refl H)
def Oa:D->R (Option Int)
 |.int i=>.ok (some i)
 |_=>.bad
theorem Gu{e:Expr}{f:DE->R D}(h:PE X e (tB X.K E f)):L2.PO X (some e) (tO X.K E fun env=>(f env).bind Oa):=Vy (D1 h) fun σ H Q ⟨g,env,os,r,m⟩=>⟨g,env,os,r,m.bind.mono fun d _ q v H' s i=>by
 cases d with
 |int k=>exact⟨k,i,q H' s⟩
 |non=>exact q.elim
 |bl _=>exact q.elim
 |lst _=>exact q.elim
 |str _=>exact q.elim
 |exc _=>exact q.elim
 |fn _=>exact q.elim
 |tup _=>exact q.elim⟩
def cut{α:Type}(xs:List α)(lo hi:Option Int):List α:=(xs.drop (HT.wD xs.length 0 lo)).take (HT.wD xs.length xs.length hi-HT.wD xs.length 0 lo)
theorem IsL.cut {K:PySem.W.Frag}{P:Addr->Prop}{H:Hp}{ds:List D}{vs:List V}(h:IsL K P H ds vs)(lo hi:Option Int):IsL K P H (DL.cut ds lo hi) (x9 vs lo hi):=by
 unfold DL.cut x9
 rw[h.length]
 exact(h.drop _).take _
theorem wJ{e:Expr}{lo hi:Option Expr}{f:DE->R (List D)}{fl fh:DE->R (Option Int)}{p2:Pos}(he:PE X e (tL X.K E f))(hl:L2.PO X lo (tO X.K E fl))(hh:L2.PO X hi (tO X.K E fh)):
  PE X (.Subscript e (.Slice lo hi none p2) pos) (tF X.K E fun env=>(f env).bind fun x=>(fl env).bind fun l=>(fh env).bind fun h=>.ok (cut x l h)):=
 imp (AI D3 he hl hh) fun σ H Q ⟨g,env,os,r,m⟩=>⟨g,env,os,r,m.bind.mono fun x _ m1 a1 v1 H1 s1 q1 i1=>⟨g,env,os,r.same s1,m1.bind.mono fun l _ m2 H2 s2=>⟨g,env,os,r.same (s1.trans s2),m2.bind.mono fun h _ m3 H3 s3=>by
  refine⟨a1,v1,rfl,s3.seq (s2.seq q1),fun p hp=>?_⟩
  obtain⟨b1,b2,b3,b4⟩:=CT r (s1.trans (s2.trans s3)) hp (((i1.same s2).same s3).cut l h)
  exact m3 p _ _ b1 b2 b3 b4⟩⟩⟩
theorem IsL.ju {K:PySem.W.Frag}{P:Addr->Prop}{H:Hp}{ds:List D}{vs:List V}{i:Int}{d:D}(h:IsL K P H ds vs)(e:L2.ju ds i=some d):∃v,L2.ju vs i=some v/\Is K P H d v:=by
 unfold L2.ju at e⊢
 rw[h.length]
 cases q:rq ds.length i with
 |none=>rw[q]at e;cases e
 |some j=>
  rw[q]at e
  exact h.get e
def t9:D->D->R D
 |.lst xs,.int i=>R.of (ju xs i)
 |.tup xs,.int i=>R.of (ju xs i)
 |_,_=>.bad
theorem wK{a b:Expr}{fa fb:DE->R D}(ha:PE X a (tD X.K E fa))(hb:PE X b (tB X.K E fb))(hs:vP b:=by exact fun _ _=>rfl):PE X (.Subscript a b pos) (tD X.K E fun env=>(fa env).bind fun x=>(fb env).bind fun y=>t9 x y):=
 imp (iK QQ ha hb hs) fun σ H Q ⟨g,env,os,r,m⟩=>⟨g,env,os,r,m.bind.mono fun x _ m1 v H1 s1 i1=>⟨g,env,os,r.same s1,m1.bind.mono fun y _ m2 w H2 s2 i2=>by
  unfold t9 at m2
  split at m2
  ·rename_i xs i _ _
   obtain⟨d,e,q⟩:=m2.of
   have Uc:=i1.same s2
   obtain⟨a,vs,rfl,h1,h2⟩:=Uc
   obtain⟨z,e2,h3⟩:=IsL.ju h2 e
   exact .inl ⟨a,vs,i,z,rfl,i2,h1.sq,e2,q z H2 (s1.trans s2) h3⟩
  ·rename_i xs i _ _
   obtain⟨d,e,q⟩:=m2.of
   have Uc:=i1.same s2
   obtain⟨a,vs,rfl,h1,h2⟩:=Uc
   obtain⟨z,e2,h3⟩:=IsL.ju h2 e
   exact .inr (.inl ⟨a,vs,i,z,rfl,i2,h1.sq,e2,q z H2 (s1.trans s2) h3⟩)
  ·exact m2.elim⟩⟩
def zu(xs:List D):D->R D
 |.int i=>R.of (ju xs i)
 |_=>.bad
theorem Cr{a b:Expr}{fa:DE->R (List D)}{fb:DE->R D}(ha:PE X a (tL X.K E fa))(hb:PE X b (tB X.K E fb))(hs:vP b:=by exact fun _ _=>rfl):PE X (.Subscript a b pos) (tD X.K E fun env=>(fa env).bind fun x=>(fb env).bind fun y=>zu x y):=
 imp (iK dC ha hb hs) fun σ H Q ⟨g,env,os,r,m⟩=>⟨g,env,os,r,m.bind.mono fun x _ m1 a1 v1 H1 s1 q1 i1=>⟨g,env,os,r.same s1,m1.bind.mono fun y _ m2 w H2 s2 i2=>by
  unfold zu at m2
  split at m2
  ·rename_i i _
   obtain⟨d,e,q⟩:=m2.of
   obtain⟨z,e2,h3⟩:=(i1.same s2).ju e
   exact⟨a1,v1,i,z,rfl,i2,s2.seq q1,e2,q z H2 (s1.trans s2) h3⟩
  ·exact m2.elim⟩⟩
def Mm(X:Cx)(r:List V->Hp->VK->Prop)(k:List D->Option D):Prop:=∀ds d,k ds=some d->∃z,toV d=some z/\∀H vs (Q:VK),IsL X.K Tr H ds vs->Q z H->r vs H Q
theorem iN{id:String}{x:Str}{p:Pos}{e:Expr}{es:List Expr}{f:DE->R (List D)}{r:List V->Hp->VK->Prop}{k:List D->Option D}(hc:qE X (.builtin id) r)(hk:Mm X r k)(hm:X.mg x=none)(hv:bootBuiltins x=some (.builtin id))(ha:PA X (e::es) (rF X.K E f))
  (hg:Gl X x:=by rfl)(hn:x≠"__name__":=by decide)(hdb:(x==("__debug__":Str))=false:=by decide)
  (he:starEach (e::es) X.env=(false,eval e X.env)::starEach es X.env:=by rfl)(hpl:(backTo pos (starEach es X.env)).any (·.1)=false:=by rfl):PE X (.Call (.Name x p) (e::es) [] pos) (tD X.K E fun env=>(f env).bind fun ds=>R.of (k ds)):=
 imp (jt hc hg hm hv ha hn hdb he hpl) fun σ H Q ⟨g,env,os,r,m⟩=>⟨g,env,os,r,m.bind.mono fun ds _ m1 vs H1 s1 i1=>by
  obtain⟨d,e,q⟩:=m1.of
  obtain⟨z,hz,hk⟩:=hk ds d e
  exact hk H1 vs Q i1 (q z H1 s1 (Is.sc hz))⟩
theorem IsL.yd {K:PySem.W.Frag}{P:Addr->Prop}{H:Hp}{d:D}{vs:List V}(h:IsL K P H [d] vs):∃v,vs=[v]/\Is K P H d v:=by
 obtain⟨v,r,rfl,p,q⟩:=h
 have q':r=[]:=q
 subst q'
 exact⟨v,rfl,p⟩
theorem IsL.Mn {K:PySem.W.Frag}{P:Addr->Prop}{H:Hp}{d d2:D}{vs:List V}(h:IsL K P H [d,d2] vs):∃v w,vs=[v,w]/\Is K P H d v/\Is K P H d2 w:=by
 obtain⟨v,r,rfl,p,q⟩:=h
 obtain⟨w,rfl,p2⟩:=IsL.yd q
 exact⟨v,w,rfl,p,p2⟩
def oV:List D->Option D
 |[.lst xs]=>some (.int xs.length)
 |[.tup xs]=>some (.int xs.length)
 |[.str x]=> @ite _ (x.length<=sizeLine) (propDecidable _) (some (.int x.length)) (none)
 |_=>none
theorem ed:Mm X (fun xs H Q=>∃x n,xs=[x]/\U8 X.K x H n/\Q (.int n) H) oV:=fun ds d e=>by
 unfold oV at e
 split at e
 ·rename_i xs
  cases e
  refine⟨_,rfl,fun H vs Q i q=>?_⟩
  obtain⟨v,rfl,a,ws,rfl,h1,h2⟩:=IsL.yd i
  exact⟨_,_,rfl,.inl ⟨ws,h1.sq,(IsL.length h2).symm⟩,q⟩
 ·rename_i xs
  cases e
  refine⟨_,rfl,fun H vs Q i q=>?_⟩
  obtain⟨v,rfl,a,ws,rfl,h1,h2⟩:=IsL.yd i
  exact⟨_,_,rfl,.inr ⟨ws,h1.sq,(IsL.length h2).symm⟩,q⟩
 ·split at e
  ·rename_i x c
   cases e
   refine⟨_,rfl,fun H vs Q i q=>?_⟩
   obtain⟨v,rfl,i2⟩:=IsL.yd i
   have i':v=.str x:=i2
   subst i'
   exact⟨_,_,rfl,⟨c,rfl⟩,q⟩
  ·cases e
 ·cases e
def Gv:List D->Option D
 |[.int i]=>some (.int (if i<0 then-i else i))
 |_=>none
theorem zw:Mm X (fun xs H Q=>∃i,xs=[.int i]/\Q (.int (if i<0 then-i else i)) H) Gv:=fun ds d e=>by
 unfold Gv at e
 split at e
 ·rename_i i
  cases e
  refine⟨_,rfl,fun H vs Q h q=>?_⟩
  obtain⟨v,rfl,h1⟩:=IsL.yd h
  have h':v=.int i:=h1
  subst h'
  exact⟨i,rfl,q⟩
 ·cases e
def D8:List D->Option D
 |[.int i,.int j]=>some (.int (if j>i then j else i))
 |_=>none
theorem Ir:Mm X (fun xs H Q=>∃i j,xs=[.int i,.int j]/\Q (.int (if j>i then j else i)) H) D8:=fun ds d e=>by
 unfold D8 at e
 split at e
 ·rename_i i j
  cases e
  refine⟨_,rfl,fun H vs Q h q=>?_⟩
  obtain⟨v,w,rfl,h1,h2⟩:=IsL.Mn h
  have h':v=.int i:=h1
  have Zv:w=.int j:=h2
  subst h' Zv
  exact⟨i,j,rfl,q⟩
 ·cases e
theorem AZ{p:Pos}{a:Expr}{f:DE->R (List D)}(hm:X.mg "list"=none)(ha:PE X a (tL X.K E f))(hg:Gl X "list":=by rfl)
  (he:starEach [a] X.env=(false,eval a X.env)::starEach [] X.env:=by rfl)(hpl:(backTo pos (starEach [] X.env)).any (·.1)=false:=by rfl):PE X (.Call (.Name "list" p) [a] [] pos) (tF X.K E f):=
 imp (qg nG hg hm (by decide +kernel) (aw ha aJ he) (by decide) (by decide) he hpl) fun σ H Q ⟨g,env,os,r,m⟩=>⟨g,env,os,r,m.mono fun x _ m1 a1 v1 H1 s1 q1 i1=>
  ⟨a1,v1,rfl,.inl q1,fun p hp=>by
   obtain⟨b1,b2,b3,b4⟩:=CT r s1 hp i1
   exact m1 p _ _ b1 b2 b3 b4⟩⟩
def D9(K:PySem.W.Frag)(xc:Str->Value)(m:List D->R D):Sp:=fun vs H Q E=>∃P ds,IsL K P H ds vs/\(match m ds with
 |.ok d=>∀v H',aH H H'->Is K (fun a=>P a\/H a=none) H' d v->Q v H'
 |.err c=>∀H',aH H H'->E (xc c) none H'
 |.bad=>False)
def Lo(K:PySem.W.Frag)(xc:Str->Value)(m:List D->R (List D)):Sp:=fun vs H Q E=>∃P ds,IsL K P H ds vs/\(match m ds with
 |.ok xs=>∀a ws H',aH H H'->H a=none->H' a=some (.lst ws)->IsL K (fun b=>(P b\/H b=none)/\b≠a) H' xs ws->Q (.ref a) H'
 |.err c=>∀H',aH H H'->E (xc c) none H'
 |.bad=>False)
def EX(xc:Str->Value)(E:Str->Hp->Prop):XK:=fun c _ H'=>∃n,c=xc n/\E n H'
theorem lD{E:XK}:Passes lB X E:=fun _ _ _ _ _ _ _ h=>h.elim
variable{CX:Hh}{k:Nat}{fa:Addr}{fd:FuncData}{ps:List Str}{xc:Str->Value}{x:Str}{p:Pos}{e:Expr}{es:List Expr}{f:DE->R (List D)}
theorem fD{m:List D->R D}(F:cu X.prog X.w X.K X.mg X.base CX k fa fd ps (D9 X.K xc m))(hm:X.mg x=some (.ref fa))(hk:keepIn X.K (.ref fa)=true)(hb:Binds X.K fd ps [])(hr:bu k X.A)(hx:Passes CX X (EX xc E))
  (ha:PA X (e::es) (Hk X.K E f))(hg:Gl X x:=by rfl)(hdb:(x==("__debug__":Str))=false:=by decide)(he:starEach (e::es) X.env=(false,eval e X.env)::starEach es X.env:=by rfl)(hpl:(backTo pos (starEach es X.env)).any (·.1)=false:=by rfl):
  PE X (.Call (.Name x p) (e::es) [] pos) (tD X.K E fun env=>(f env).bind m):=
 imp (dX F hr hg hm hk hb .nil hx ha hdb he hpl) fun σ H Q ⟨g,env,os,r,q⟩=>⟨g,env,os,r,q.bind.mono fun ds _ q1 vs H1 s1 i1=>by
  show D9 X.K xc m (vs++[]) H1 Q _
  rw[append_nil]
  refine⟨g.P os,ds,i1,?_⟩
  cases em:m ds with
  |ok d=>
   rw[em]at q1
   intro v H' s' i'
   exact q1 v H' (s1.trans s') (Is.ext ⟨fun a o pa _=>pa.elim (fun z=>z) fun z=>(r.same s1).fresh z,fun _ _ _ z=>z⟩ _ _ i')
  |err c=>
   rw[em]at q1
   intro H' s'
   exact⟨c,rfl,q1 H' (r.ext.trans (s1.trans s'))⟩
  |bad=>rw[em]at q1;exact q1⟩
theorem fB{m:List D->R D}(F:cu X.prog X.w X.K X.mg X.base CX k fa fd ps (D9 X.K xc m))(hsc:∀ds d,m ds=.ok d->∃z,toV d=some z)(hm:X.mg x=some (.ref fa))(hk:keepIn X.K (.ref fa)=true)(hb:Binds X.K fd ps [])(hr:bu k X.A)(hx:Passes CX X (EX xc E))
  (ha:PA X (e::es) (rF X.K E f))(hg:Gl X x:=by rfl)(hdb:(x==("__debug__":Str))=false:=by decide)(he:starEach (e::es) X.env=(false,eval e X.env)::starEach es X.env:=by rfl)(hpl:(backTo pos (starEach es X.env)).any (·.1)=false:=by rfl):
  PE X (.Call (.Name x p) (e::es) [] pos) (tD X.K E fun env=>(f env).bind m):=
 imp (dX F hr hg hm hk hb .nil hx ha hdb he hpl) fun σ H Q ⟨g,env,os,r,q⟩=>⟨g,env,os,r,q.bind.mono fun ds _ q1 vs H1 s1 i1=>by
  show D9 X.K xc m (vs++[]) H1 Q _
  rw[append_nil]
  refine⟨Tr,ds,i1,?_⟩
  cases em:m ds with
  |ok d=>
   rw[em]at q1
   intro v H' s' i'
   obtain⟨z,hz⟩:=hsc ds d em
   have e2:=Is.N8 hz i'
   subst e2
   exact q1 _ H' (s1.trans s') (Is.sc hz)
  |err c=>
   rw[em]at q1
   intro H' s'
   exact⟨c,rfl,q1 H' (r.ext.trans (s1.trans s'))⟩
  |bad=>rw[em]at q1;exact q1⟩
theorem fF{m:List D->R (List D)}(F:cu X.prog X.w X.K X.mg X.base CX k fa fd ps (Lo X.K xc m))(hm:X.mg x=some (.ref fa))(hk:keepIn X.K (.ref fa)=true)(hb:Binds X.K fd ps [])(hr:bu k X.A)(hx:Passes CX X (EX xc E))
  (ha:PA X (e::es) (Hk X.K E f))(hg:Gl X x:=by rfl)(hdb:(x==("__debug__":Str))=false:=by decide)(he:starEach (e::es) X.env=(false,eval e X.env)::starEach es X.env:=by rfl)(hpl:(backTo pos (starEach es X.env)).any (·.1)=false:=by rfl):
  PE X (.Call (.Name x p) (e::es) [] pos) (tF X.K E fun env=>(f env).bind m):=
 imp (dX F hr hg hm hk hb .nil hx ha hdb he hpl) fun σ H Q ⟨g,env,os,r,q⟩=>⟨g,env,os,r,q.bind.mono fun ds _ q1 vs H1 s1 i1=>by
  show Lo X.K xc m (vs++[]) H1 Q _
  rw[append_nil]
  refine⟨g.P os,ds,i1,?_⟩
  cases em:m ds with
  |ok d=>
   rw[em]at q1
   intro a ws H' s' hn hH i'
   exact q1 a ws H' (s1.trans s') (s1.free hn) hH (IsL.ext ⟨fun b o pb _=>by
    have z:g.P os b:=pb.1.elim (fun z=>z) fun z=>(r.same s1).fresh z
    exact⟨z.1,fun hm=>(mem_cons.mp hm).elim pb.2 z.2⟩,fun _ _ _ z=>z⟩ _ _ i')
  |err c=>
   rw[em]at q1
   intro H' s'
   exact⟨c,rfl,q1 H' (r.ext.trans (s1.trans s'))⟩
  |bad=>rw[em]at q1;exact q1⟩
theorem scs{K:PySem.W.Frag}{P P':Addr->Prop}{H:Hp}:∀{ds:List D}{vs:List V},(∀d∈ds,∃z,toV d=some z)->IsL K P H ds vs->IsL K P' H ds vs
 |[],_,_,h=>h
 |d::ds,_,hs,⟨v,r,e,p,q⟩=>by
  obtain⟨z,hz⟩:=hs d (by simp)
  have e2:=Is.N8 hz p
  exact⟨v,r,e,by rw[e2];exact Is.sc hz,scs (fun d hd=>hs d (by simp[hd])) q⟩
theorem fFB{m:List D->R (List D)}(F:cu X.prog X.w X.K X.mg X.base CX k fa fd ps (Lo X.K xc m))(hsc:∀ds xs,m ds=.ok xs->∀d∈xs,∃z,toV d=some z)(hm:X.mg x=some (.ref fa))(hk:keepIn X.K (.ref fa)=true)(hb:Binds X.K fd ps [])(hr:bu k X.A)(hx:Passes CX X (EX xc E))
  (ha:PA X (e::es) (rF X.K E f))(hg:Gl X x:=by rfl)(hdb:(x==("__debug__":Str))=false:=by decide)(he:starEach (e::es) X.env=(false,eval e X.env)::starEach es X.env:=by rfl)(hpl:(backTo pos (starEach es X.env)).any (·.1)=false:=by rfl):
  PE X (.Call (.Name x p) (e::es) [] pos) (tF X.K E fun env=>(f env).bind m):=
 imp (dX F hr hg hm hk hb .nil hx ha hdb he hpl) fun σ H Q ⟨g,env,os,r,q⟩=>⟨g,env,os,r,q.bind.mono fun ds _ q1 vs H1 s1 i1=>by
  show Lo X.K xc m (vs++[]) H1 Q _
  rw[append_nil]
  refine⟨Tr,ds,i1,?_⟩
  cases em:m ds with
  |ok d=>
   rw[em]at q1
   intro a ws H' s' hn hH i'
   exact q1 a ws H' (s1.trans s') (s1.free hn) hH (scs (hsc ds d em) i')
  |err c=>
   rw[em]at q1
   intro H' s'
   exact⟨c,rfl,q1 H' (r.ext.trans (s1.trans s'))⟩
  |bad=>rw[em]at q1;exact q1⟩
end
def aS(r:R Out)(k:DE->R Out):R Out:=r.bind fun o=>match o with
 |.nx e=>k e
 |o=>.ok o
def dH(b:D->DE->R Out):List D->DE->R Out
 |[],e=>.ok (.nx e)
 |x::xs,e=>(b x e).bind fun o=>match o with
  |.nx e'=>dH b xs e'
  |.ct e'=>dH b xs e'
  |.bk e'=>.ok (.nx e')
  |.rt d=>.ok (.rt d)
  |.oF ys=>.ok (.oF ys)
  |.Hm ys=>.ok (.Hm ys)
  |.Gr ys=>.ok (.Gr ys)
  |.Hl ys=>.ok (.Hl ys)
  |.AU ys=>.ok (.AU ys)
def iS(c:DE->R Bool)(b:DE->R Out):Nat->DE->R Out
 |0,_=>.bad
 |n+1,e=>(c e).bind fun t=>if t=true then(b e).bind fun o=>match o with
  |.nx e'=>iS c b n e'
  |.ct e'=>iS c b n e'
  |.bk e'=>.ok (.nx e')
  |.rt d=>.ok (.rt d)
  |.oF ys=>.ok (.oF ys)
  |.Hm ys=>.ok (.Hm ys)
  |.Gr ys=>.ok (.Gr ys)
  |.Hl ys=>.ok (.Hl ys)
  |.AU ys=>.ok (.AU ys)else .ok (.nx e)
section
variable{X:Cx}{E:Str->Hp->Prop}{pos:Pos}
theorem lY:qD X [] (tS X.K E fun e=>.ok (.nx e)):=N9 ly fun De σ H ⟨g,env,os,r,m⟩=>m σ H os r (.refl H os)
theorem aD{st:Stmt}{rest:List Stmt}{f k:DE->R Out}(h1:PS X st (tS X.K E f))(h2:qD X rest (tS X.K E k)):qD X (st::rest) (tS X.K E fun e=>aS (f e) k):=
 N9 (aC h1 h2) fun De σ H ⟨g,env,os,r,m⟩=>⟨g,env,os,r,(show Good E g.H₀ ((f env).bind _) _ from m).bind.mono fun o _ q=>by
  cases o with
  |nx e'=>exact fun σ' H' fM r' z=>⟨g,e',fM,r',Good.mono (show Good E g.H₀ (k e') _ from q) fun o _ q=>dZ.step z q⟩
  |bk e'=>exact q
  |ct e'=>exact q
  |rt d=>exact q
  |oF xs=>exact q
  |Hm xs=>exact q
  |Gr xs=>exact q
  |Hl xs=>exact q
  |AU xs=>exact q⟩
theorem aZ{st:Stmt}{f:DE->R Out}(h1:PS X st (tS X.K E f)):qD X [st] (tS X.K E f):=bU h1
theorem Vz{g:Gh}{os:List Addr}{K:PySem.W.Frag}{H:Hp}{d:D}{v:V}(h:Is K (g.P os) H d v):Is K (g.P []) H d v:=Is.ext ⟨fun _ _ p _=>⟨p.1,by simp⟩,fun _ _ _ q=>q⟩ _ _ h
theorem gU{e:Expr}{f:DE->R D}(he:PE X e (tD X.K E f)):PS X (.Return (some e) pos) (tS X.K E fun env=>(f env).bind fun d=>.ok (.rt d)):=
 oQ (lW he) fun De σ H ⟨g,env,os,r,m⟩=>⟨g,env,os,r,m.bind.mono fun d _ q v H' s i=>q v H' (r.ext.trans s) (Vz i)⟩
theorem mK{e:Expr}{f:DE->R (List D)}(he:PE X e (tF X.K E f)):PS X (.Return (some e) pos) (tS X.K E fun env=>(f env).bind fun d=>.ok (.oF d)):=
 oQ (lW he) fun De σ H ⟨g,env,os,r,m⟩=>⟨g,env,os,r,m.bind.mono fun xs _ q a vs H' s hn hH i=>
  q a vs H' (r.ext.trans s) (r.ext.free hn) hH (IsL.ext ⟨fun b o p _=>⟨p.1,fun z=>p.2 (by simp at z;simp[z])⟩,fun _ _ _ q=>q⟩ _ _ i)⟩
def ownAt(i:Nat)(env:DE):R (List D):=match env[i]? with
 |some (.own xs)=>.ok xs
 |_=>.bad
theorem Good.own {H₀:Hp}{i:Nat}{env:DE}{p:List D->Prop}(h:Good E H₀ (ownAt i env) p):∃xs,env[i]?=some (.own xs)/\p xs:=by
 unfold ownAt at h
 split at h
 ·rename_i xs e
  exact⟨xs,e,h⟩
 ·exact h.elim
theorem wL(i:Nat){x:Str}{p:Pos}(hN:X.N[i]?=some x:=by rfl)(hv:wz X.env.scope x:=by first|exact Or.inl rfl|exact Or.inr (Or.inl rfl)|exact Or.inr (Or.inr rfl))(hd:(x==("__debug__":Str))=false:=by decide)
  (hcd:(x==("__classdict__":Str))=false:=by decide):PS X (.Return (some (.Name x p)) pos) (tS X.K E fun env=>(ownAt i env).bind fun xs=>.ok (.oF xs)):=
 oQ (lW (gW hN hv hd hcd)) fun De σ H ⟨g,env,os,r,m⟩=>by
  obtain⟨xs,e,q⟩:=m.bind.own
  obtain⟨a,vs,h1,h2,h3,h4⟩:=r.own i xs e
  exact⟨.ref a,h1,q a vs H r.ext (r.new a h2).1 h3 (IsL.ext ⟨fun b o p _=>⟨p.1,fun z=>p.2 (by simp at z;rw[z];exact h2)⟩,fun _ _ _ q=>q⟩ _ _ h4)⟩
theorem vR{c:Expr}{a b:List Stmt}{fc:DE->R Bool}{fa fb:DE->R Out}(hc:PT X c (tT X.K E fc))(ha:qD X a (tS X.K E fa))(hb:qD X b (tS X.K E fb)):PS X (.If c a b pos) (tS X.K E fun env=>(fc env).bind fun t=>if t=true then fa env else fb env):=
 oQ (uR hc ha hb) fun De σ H ⟨g,env,os,r,m⟩=>⟨g,env,os,r,m.bind.mono fun t _ q H' s=>by
  cases t with
  |true=>
   rw[if_pos rfl]
   exact⟨g,env,os,r.same s,Good.mono (show Good E g.H₀ (fa env) _ from q) fun o _ q2=>dZ.step (.same s os) q2⟩
  |false=>
   rw[if_neg Bool.false_ne_true]
   exact⟨g,env,os,r.same s,Good.mono (show Good E g.H₀ (fb env) _ from q) fun o _ q2=>dZ.step (.same s os) q2⟩⟩
theorem eU(i:Nat){x:Str}{e:Expr}{f:DE->R D}{pos':Pos}(he:PE X e (tD X.K E f))(hN:X.N.Nodup)(hi:X.N[i]?=some x:=by rfl)(hx:Loc X.env.scope x:=by first|exact Or.inl rfl|exact Or.inr rfl)(hs:swapsWith e (some (.Name x pos')) pos.line X.env=pure false:=by rfl)
  (hf:X.fn x=true\/X.env.scope.names.lookup x=some .local:=by first|exact .inl rfl|exact .inr rfl|assumption):PS X (.Assign [.Name x pos'] e pos) (tS X.K E fun env=>(f env).bind fun d=>.ok (.nx (env.set i (.val d)))):=
 oQ (cY hN hi hx he hs hf) fun De σ H ⟨g,env,os,r,m⟩=>⟨g,env,os,r,m.bind.mono fun d _ q v H' s h=>q _ H' os ((r.same s).set i h) (.same s os)⟩
theorem qW.new {H H':Hp}{os:List Addr}{a:Addr}(s:aH H H')(hn:H a=none):qW H os H' (a::os):=
 ⟨fun b hb=>(mem_cons.mp hb).elim (fun z=>.inr (by rw[z];exact hn)) .inl,fun _ h=>s.free h,fun _ _ _ h=>s _ _ h⟩
theorem lE(i:Nat){x:Str}{e:Expr}{f:DE->R (List D)}{pos':Pos}(he:PE X e (tF X.K E f))(hN:X.N.Nodup)(hi:X.N[i]?=some x:=by rfl)(hx:Loc X.env.scope x:=by first|exact Or.inl rfl|exact Or.inr rfl)(hs:swapsWith e (some (.Name x pos')) pos.line X.env=pure false:=by rfl)
  (hf:X.fn x=true\/X.env.scope.names.lookup x=some .local:=by first|exact .inl rfl|exact .inr rfl|assumption):PS X (.Assign [.Name x pos'] e pos) (tS X.K E fun env=>(f env).bind fun d=>.ok (.nx (env.set i (.own d)))):=
 oQ (cY hN hi hx he hs hf) fun De σ H ⟨g,env,os,r,m⟩=>⟨g,env,os,r,m.bind.mono fun d _ q a vs H' s hn hH h=>q _ H' (a::os) (r.Zk s i hn hH h) (.new s hn)⟩
theorem qW.mut {H:Hp}{os:List Addr}{a:Addr}{o:HO}(ha:a∈os):qW H os (upd H a o) os:=
 ⟨fun b hb=>.inl hb,fun b h=>by
  by_cases z:b=a
  ·subst z;rw[ar]at h;cases h
  ·rw[ah z]at h;exact h,fun b u hb h=>by rw[ah (fun z=>hb (by rw[z];exact ha))];exact h⟩
def xZ(i:Nat)(env:DE):DE:=match env[i]? with
 |some (.own xs)=>env.set i (.val (.lst xs))
 |_=>env
theorem Zw(i:Nat){x:Str}{e:Expr}{f:DE->R D}{p apos aY:Pos}(he:PE X e (tD X.K E f))(hN:X.N[i]?=some x:=by rfl)(hv:wz X.env.scope x:=by first|exact Or.inl rfl|exact Or.inr (Or.inl rfl)|exact Or.inr (Or.inr rfl))(hd:(x==("__debug__":Str))=false:=by decide)
  (hcd:(x==("__classdict__":Str))=false:=by decide)
  (hbase:attributeBase (.Name x p) "append" X.env (eval (.Name x p) X.env)=eval (.Name x p) X.env:=by rfl)
  (hfew:((backTo aY (starEach [e] X.env)).all (fun x=> !x.1)&&(backToKw aY (keywordEach [] X.env)).all (fun x=>x.1.isSome)
   &&decide ([e].length+([]:List Keyword).length+(if([]:List Keyword).isEmpty then 0 else 1)<30))=true:=by rfl)
  (hline:(apos.endLine==aY.line)=true:=by rfl)(hst:starEach [e] X.env=(false,eval e X.env)::starEach [] X.env:=by rfl)(hplain:(backTo aY (starEach [] X.env)).any (·.1)=false:=by rfl)
  (hs:swapsWith (.Call (.Attribute (.Name x p) "append" apos) [e] [] aY) none pos.line X.env=pure false:=by rfl):
  PS X (.Expr (.Call (.Attribute (.Name x p) "append" apos) [e] [] aY) pos) (tS X.K E fun env=>(ownAt i env).bind fun xs=>(f env).bind fun d=> @ite _ (xs.length<sizeLine) (propDecidable _) (.ok (.nx (env.set i (.own (xs++[d]))))) (.bad)):=
 oQ (gf (rB plainAttrs_list PySem.F.slot_list_append PySem.F.type_list_append fy (gW hN hv hd hcd) (aw he aJ hst) hbase hfew hline hst hplain) hs) fun De σ H ⟨g,env,os,r,m⟩=>by
  obtain⟨xs,e,m1⟩:=m.bind.own
  obtain⟨a,vs,h1,h2,h3,h4⟩:=r.own i xs e
  refine⟨.ref a,h1,.inl ⟨rfl,vs,ck.of h3⟩,g,env,os,r,m1.bind.mono fun d _ q v H' s hi=>?_⟩
  split at q
  ·rename_i c
   refine⟨a,vs,v,rfl,rfl,s _ _ h3,by rw[h4.length];exact c,?_⟩
   exact q σ _ os ((r.same s).mut e h1 h2 ((h4.same s).app (.one hi))) ((qW.same s os).trans (.mut h2))
  ·exact q.elim
theorem Zx(i:Nat){x:Str}{p apos aY:Pos}(hN:X.N[i]?=some x:=by rfl)(hv:wz X.env.scope x:=by first|exact Or.inl rfl|exact Or.inr (Or.inl rfl)|exact Or.inr (Or.inr rfl))(hd:(x==("__debug__":Str))=false:=by decide)
  (hcd:(x==("__classdict__":Str))=false:=by decide)
  (hbase:attributeBase (.Name x p) "pop" X.env (eval (.Name x p) X.env)=eval (.Name x p) X.env:=by rfl)(hline:(apos.endLine==aY.line)=true:=by rfl)
  (hs:swapsWith (.Call (.Attribute (.Name x p) "pop" apos) [] [] aY) none pos.line X.env=pure false:=by rfl):
  PS X (.Expr (.Call (.Attribute (.Name x p) "pop" apos) [] [] aY) pos) (tS X.K E fun env=>(ownAt i env).bind fun xs=>if 0<xs.length then .ok (.nx (env.set i (.own xs.dropLast)))else .bad):=
 oQ (gf (zp plainAttrs_list slot_list_pop type_list_pop Ia (gW hN hv hd hcd) hbase hline) hs) fun De σ H ⟨g,env,os,r,m⟩=>by
  obtain⟨xs,e,m1⟩:=m.bind.own
  obtain⟨a,vs,h1,h2,h3,h4⟩:=r.own i xs e
  split at m1
  ·rename_i c
   have hl:=h4.length
   refine⟨.ref a,h1,.inl ⟨rfl,vs,ck.of h3⟩,a,vs,vs[vs.length-1],rfl,rfl,h3,by rw[getElem?_eq_getElem (by omega)],?_⟩
   refine m1 σ _ os (r.mut e h1 h2 ?_) (.mut h2)
   rw[dropLast_eq_take,dropLast_eq_take,hl]
   exact h4.take _
  ·exact m1.elim
theorem Zy(i:Nat){x:Str}{e:Expr}{f:DE->R (List D)}{p apos aY:Pos}(he:PE X e (tF X.K E f))(hN:X.N[i]?=some x:=by rfl)(hv:wz X.env.scope x:=by first|exact Or.inl rfl|exact Or.inr (Or.inl rfl)|exact Or.inr (Or.inr rfl))(hd:(x==("__debug__":Str))=false:=by decide)
  (hcd:(x==("__classdict__":Str))=false:=by decide)
  (hbase:attributeBase (.Name x p) "extend" X.env (eval (.Name x p) X.env)=eval (.Name x p) X.env:=by rfl)
  (hfew:((backTo aY (starEach [e] X.env)).all (fun x=> !x.1)&&(backToKw aY (keywordEach [] X.env)).all (fun x=>x.1.isSome)
   &&decide ([e].length+([]:List Keyword).length+(if([]:List Keyword).isEmpty then 0 else 1)<30))=true:=by rfl)
  (hline:(apos.endLine==aY.line)=true:=by rfl)(hst:starEach [e] X.env=(false,eval e X.env)::starEach [] X.env:=by rfl)(hplain:(backTo aY (starEach [] X.env)).any (·.1)=false:=by rfl)
  (hs:swapsWith (.Call (.Attribute (.Name x p) "extend" apos) [e] [] aY) none pos.line X.env=pure false:=by rfl):
  PS X (.Expr (.Call (.Attribute (.Name x p) "extend" apos) [e] [] aY) pos) (tS X.K E fun env=>(ownAt i env).bind fun xs=>(f env).bind fun ys=> @ite _ (xs.length+ys.length<=sizeLine) (propDecidable _) (.ok (.nx (env.set i (.own (xs++ys))))) (.bad)):=
 oQ (gf (rB plainAttrs_list PySem.F.slot_list_extend PySem.F.type_list_extend Gi (gW hN hv hd hcd) (aw he aJ hst) hbase hfew hline hst hplain) hs) fun De σ H ⟨g,env,os,r,m⟩=>by
  obtain⟨xs,e,m1⟩:=m.bind.own
  obtain⟨a,vs,h1,h2,h3,h4⟩:=r.own i xs e
  refine⟨.ref a,h1,.inl ⟨rfl,vs,ck.of h3⟩,g,env,os,r,m1.bind.mono fun ys _ q b ws H' s hn hH hi=>?_⟩
  split at q
  ·rename_i c
   refine⟨a,b,vs,ws,rfl,rfl,s _ _ h3,hH,by rw[h4.length,hi.length];exact c,?_⟩
   have wM:IsL X.K (g.P os) H' ys ws:=IsL.ext ⟨fun b o p _=>⟨p.1,fun z=>p.2 (mem_cons_of_mem _ z)⟩,fun _ _ _ q=>q⟩ _ _ hi
   exact q σ _ os ((r.same s).mut e h1 h2 ((h4.same s).app wM)) ((qW.same s os).trans (.mut h2))
  ·exact q.elim
theorem Q5(i:Nat){x:Str}{ek e:Expr}{fk f:DE->R D}{p tp:Pos}(hk:PE X ek (tB X.K E fk))(he:PE X e (tD X.K E f))(hN:X.N[i]?=some x:=by rfl)(hv:wz X.env.scope x:=by first|exact Or.inl rfl|exact Or.inr (Or.inl rfl)|exact Or.inr (Or.inr rfl))(hd:(x==("__debug__":Str))=false:=by decide)
  (hcd:(x==("__classdict__":Str))=false:=by decide)
  (ha:∀v,assign (.Subscript (.Name x p) ek tp) X.env v=(do
   let ov<-holding [v] (eval (.Name x p) X.env)
   let iv<-holding [v,ov] (eval ek X.env)
   standAt tp
   holding [v,ov,iv] (setItem ov iv v)
   release [v,ov,iv] []):=by intro _;rfl)
  (hs:swapsWithSole [.Subscript (.Name x p) ek tp] e pos.line X.env=pure false:=by rfl)(hw:swappedStores [.Subscript (.Name x p) ek tp] e X.env=pure none:=by rfl)
  (h1:(assignEach [.Subscript (.Name x p) ek tp] X.env).map (·.2)=[assign (.Subscript (.Name x p) ek tp) X.env]:=by rfl):
  PS X (.Assign [.Subscript (.Name x p) ek tp] e pos) (tS X.K E fun env=>(f env).bind fun d=>(ownAt i env).bind fun xs=>(fk env).bind fun kd=>match kd with
   |.int j=>(match rq xs.length j with
    |some n=>.ok (.nx (env.set i (.own (xs.set n d))))
    |none=>.bad)
   |_=>.bad):=
 oQ (CA he (Cz (gW hN hv hd hcd) hk set_list ha) hs hw h1) fun De σ H ⟨g,env,os,r,m⟩=>⟨g,env,os,r,m.bind.mono fun d _ m1 v H1 s1 i1=>by
  obtain⟨xs,e,m2⟩:=m1.bind.own
  obtain⟨a,vs,h1,h2,h3,h4⟩:=(r.same s1).own i xs e
  refine⟨.ref a,h1,g,env,os,r.same s1,m2.bind.mono fun kd _ m3 w H2 s2 i2=>?_⟩
  cases kd with
  |int j=>
   cases q:rq xs.length j with
   |none=>
    simp only [q]at m3
    exact m3.elim
   |some n=>
    simp only [q]at m3
    refine⟨a,vs,j,n,rfl,i2,s2 _ _ h3,by rw[h4.length];exact q,?_⟩
    exact m3 σ _ os ((r.same (s1.trans s2)).mut e h1 h2 ((h4.same s2).set n (i1.same s2))) ((qW.same (s1.trans s2) os).trans (.mut h2))
  |non=>exact m3.elim
  |bl _=>exact m3.elim
  |lst _=>exact m3.elim
  |str _=>exact m3.elim
  |exc _=>exact m3.elim
  |fn _=>exact m3.elim
  |tup _=>exact m3.elim⟩
theorem Zz(i:Nat){x:Str}{e:Expr}{op:Operator}{h:Int->Int->Int}{f:DE->R D}{pos':Pos}(ho:T9 X op (UW h))(he:PE X e (tB X.K E f))(hN:X.N.Nodup)(hi:X.N[i]?=some x:=by rfl)(hx:Loc X.env.scope x:=by first|exact Or.inl rfl|exact Or.inr rfl)
  (hf:X.fn x=true\/X.env.scope.names.lookup x=some .local:=by first|exact .inl rfl|exact .inr rfl|assumption):
  PS X (.AugAssign (.Name x pos') op e pos) (tS X.K E fun env=>(bQ i env).bind fun a=>(f env).bind fun b=>match a,b with
   |.int u,.int w=>.ok (.nx (env.set i (.val (.int (h u w)))))
   |_,_=>.bad):=
 oQ (CB hN hi hx he ho hf) fun De σ H ⟨g,env,os,r,m⟩=>by
  dsimp only [bQ]at m
  cases q:env[i]? with
  |none=>rw[q]at m;exact m.elim
  |some sl=>
   cases sl with
   |no=>rw[q]at m;exact m.elim
   |raw _=>rw[q]at m;exact m.elim
   |deep _=>rw[q]at m;exact m.elim
   |own _=>rw[q]at m;exact m.elim
   |val a=>
    rw[q]at m
    obtain⟨v,h1,h2⟩:=r.val i a q
    have m':Good E g.H₀ ((f env).bind _) _:=m
    refine⟨v,h1,g,env,os,r,m'.bind.mono fun b _ m2 w H' s i2=>?_⟩
    cases a with
    |int u=>
     cases b with
     |int w'=>exact⟨u,w',h2,i2,m2 _ H' os ((r.same s).set i rfl) (.same s os)⟩
     |non=>exact m2.elim
     |bl _=>exact m2.elim
     |lst _=>exact m2.elim
     |str _=>exact m2.elim
     |exc _=>exact m2.elim
     |fn _=>exact m2.elim
     |tup _=>exact m2.elim
    |non=>exact m2.elim
    |bl _=>exact m2.elim
    |lst _=>exact m2.elim
    |str _=>exact m2.elim
    |exc _=>exact m2.elim
    |fn _=>exact m2.elim
    |tup _=>exact m2.elim
def Yl(K:PySem.W.Frag)(P:Addr->Prop)(J:It)(H:Hp)(xs:List D):Prop:=
 ∀(i:Nat)(H':Hp)(P':Addr->Prop),Ext P P' H H'->(∀d,xs[i]?=some d->J.go i H'/\∀x Q6,J.UX i H' x Q6->aH H' Q6/\Is K (fun a=>P' a\/H' a=none) Q6 d x)/\(xs.length=i->J.stop i H')
def tI(K:PySem.W.Frag)(E:Str->Hp->Prop)(f:DE->R (List D)):TI:=fun σ H Rr=>∃g env os,Rel K g env σ H os/\Good E g.H₀ (f env) fun xs=>∀J H1,aH H H1->Yl K (g.P os) J H1 xs->Rr J H1
theorem Iu{tg e:Expr}{t t':TI}(h:PI X tg e t)(w:∀σ H Q,t' σ H Q->t σ H Q):PI X tg e t':=fun pins s σ H Q I q=>h pins s σ H Q I (w σ H Q q)
def Yls(K:PySem.W.Frag)(P:Addr->Prop)(J:It)(H:Hp)(xs:List D):Prop:=
 ∀(i:Nat)(H':Hp)(P':Addr->Prop),aH H H'->Ext P P' H H'->(∀d,xs[i]?=some d->J.go i H'/\∀x Q6,J.UX i H' x Q6->aH H' Q6/\Is K (fun a=>P' a\/H' a=none) Q6 d x)/\(xs.length=i->J.stop i H')
def XY(K:PySem.W.Frag)(E:Str->Hp->Prop)(f:DE->R (List D)):TI:=fun σ H Rr=>∃g env os,Rel K g env σ H os/\Good E g.H₀ (f env) fun xs=>∀J H1,aH H H1->Yls K (g.P os) J H1 xs->Rr J H1
theorem wN{tg e:Expr}{f:DE->R (List D)}(h:PI X tg e (tI X.K E f)):PI X tg e (XY X.K E f):=Iu h fun σ H Q ⟨g,env,os,r,m⟩=>⟨g,env,os,r,m.mono fun xs _ q J H1 s1 yl=>q J H1 s1 fun i H' P' _ ex=>yl i H' P' ex⟩
theorem iLS{tg e:Expr}{f:DE->R (List D)}(he:PE X e (tL X.K E f)):PI X tg e (XY X.K E f):=
 Iu (vN he) fun σ H Q ⟨g,env,os,r,m⟩=>⟨g,env,os,r,m.mono fun xs _ q a vs H' s h1 h2=>by
  refine⟨a,rfl,⟨vs,h1⟩,q _ H' s fun j H2 P' ss ex=>⟨fun d hd=>?_,fun hj=>?_⟩⟩
  ·obtain⟨x,hx,hi⟩:=(IsL.ext ex _ _ h2).get hd
   refine⟨⟨vs,x,ss.seq h1,hx⟩,fun y H3 hy=>?_⟩
   obtain⟨rfl,hy⟩:=hy
   have e2:=hy vs (ss.seq h1)
   rw[hx]at e2
   cases e2
   exact⟨aH.refl _,Is.ext ⟨fun _ _ p _=>.inl p,fun _ _ _ z=>z⟩ _ _ hi⟩
  ·exact⟨vs,ss.seq h1,by rw[IsL.length h2];exact le_of_eq hj⟩⟩
theorem iL{tg e:Expr}{f:DE->R D}(he:PE X e (tD X.K E f)):PI X tg e (tI X.K E fun env=>(f env).bind t8):=
 Iu (vN he) fun σ H Q ⟨g,env,os,r,m⟩=>⟨g,env,os,r,m.bind.mono fun d _ q v H' s i=>by
  cases d with
  |lst xs=>
   obtain⟨a,vs,rfl,h1,h2⟩:=i
   refine⟨a,rfl,⟨vs,h1.sq⟩,q _ H' s fun j H2 P' ex=>⟨fun d hd=>?_,fun hj=>?_⟩⟩
   ·obtain⟨x,hx,hi⟩:=(IsL.ext ex _ _ h2).get hd
    refine⟨⟨vs,x,(h1.ext ex).sq,hx⟩,fun y H3 hy=>?_⟩
    obtain⟨rfl,hy⟩:=hy
    have e2:=hy vs (h1.ext ex).sq
    rw[hx]at e2
    cases e2
    exact⟨aH.refl _,Is.ext ⟨fun _ _ p _=>.inl p,fun _ _ _ z=>z⟩ _ _ hi⟩
   ·exact⟨vs,(h1.ext ex).sq,by rw[IsL.length h2];exact le_of_eq hj⟩
  |non=>exact q.elim
  |bl _=>exact q.elim
  |int _=>exact q.elim
  |str _=>exact q.elim
  |exc _=>exact q.elim
  |fn _=>exact q.elim
  |tup _=>exact q.elim⟩
def nK(lo:Int)(n:Nat):List D:=(range n).map fun i=>.int (lo+(i:Nat))
def Mp:List D->R (List D)
 |[.int j]=> @ite _ (-(2^62)<=j/\j<2^62) (propDecidable _) (.ok (nK 0 j.toNat)) (.bad)
 |_=>.bad
def Gw:List D->R (List D)
 |[.int i,.int j]=> @ite _ (-(2^62)<=i/\i<2^62/\ -(2^62)<=j/\j<2^62) (propDecidable _) (.ok (nK i (j-i).toNat)) (.bad)
 |_=>.bad
theorem Iw{K:PySem.W.Frag}{P:Addr->Prop}{H:Hp}(lo:Int)(n:Nat):Yl K P (UY lo n) H (nK lo n):=fun i H' P' ex=>⟨fun d hd=>by
 unfold nK at hd
 rw[getElem?_map]at hd
 have hi:i<n:=by
  cases q:(range n)[i]? with
  |none=>rw[q]at hd;cases hd
  |some j=>simpa using(List.getElem?_eq_some_iff.mp q).1
 rw[List.getElem?_range hi]at hd
 cases hd
 refine⟨hi,fun x H2 hy=>?_⟩
 obtain⟨rfl,rfl⟩:=hy
 exact⟨aH.refl _,rfl⟩,fun h=>by
 unfold nK at h
 exact le_of_eq (by simpa using h)⟩
theorem iR1{tg a:Expr}{p:Pos}{f:DE->R (List D)}(hm:X.mg "range"=none)(ha:PA X [a] (rF X.K E f))(hg:Gl X "range":=by rfl)(hs:starEach [a] X.env=[(false,eval a X.env)]:=by rfl):
  PI X tg (.Call (.Name "range" p) [a] [] pos) (tI X.K E fun env=>(f env).bind Mp):=
 Iu (F7 hg hm ha hs) fun σ H Q ⟨g,env,os,r,m⟩=>⟨g,env,os,r,m.bind.mono fun ds _ q vs H' s i=>by
  unfold Mp at q
  split at q
  ·rename_i j _
   split at q
   ·rename_i c
    obtain⟨v,rfl,h1⟩:=IsL.yd i
    have h':v=.int j:=h1
    subst h'
    exact⟨j,rfl,c.1,c.2,q _ H' s (Iw 0 _)⟩
   ·exact q.elim
  ·exact q.elim⟩
theorem iR2{tg a b:Expr}{p:Pos}{f:DE->R (List D)}(hm:X.mg "range"=none)(ha:PA X [a,b] (rF X.K E f))(hg:Gl X "range":=by rfl)(hs:starEach [a,b] X.env=[(false,eval a X.env),(false,eval b X.env)]:=by rfl)(hs2:starEach [b] X.env=[(false,eval b X.env)]:=by rfl):
  PI X tg (.Call (.Name "range" p) [a,b] [] pos) (tI X.K E fun env=>(f env).bind Gw):=
 Iu (F8 hg hm ha hs hs2) fun σ H Q ⟨g,env,os,r,m⟩=>⟨g,env,os,r,m.bind.mono fun ds _ q vs H' s i=>by
  unfold Gw at q
  split at q
  ·rename_i u j _
   split at q
   ·rename_i c
    obtain⟨v,w,rfl,h1,h2⟩:=IsL.Mn i
    have h':v=.int u:=h1
    have Zv:w=.int j:=h2
    subst h' Zv
    exact⟨u,j,rfl,c,q _ H' s (Iw u _)⟩
   ·exact q.elim
  ·exact q.elim⟩
def tG(K:PySem.W.Frag)(E:Str->Hp->Prop)(b:D->DE->R DE):TG:=fun v σ H Q=>∃g env os d,Rel K g env σ H os/\Is K (g.P os) H d v/\Good E g.H₀ (b d env) fun e'=>∀σ',Rel K g e' σ' H os->Q σ' H
def Ob(K:PySem.W.Frag)(E:Str->Hp->Prop)(b:List D->DE->R DE):LN:=fun vs σ H Q=>∃g env os ds,Rel K g env σ H os/\IsL K (g.P os) H ds vs/\Good E g.H₀ (b ds env) fun e'=>∀σ',Rel K g e' σ' H os->Q σ' H
theorem VA{e:Expr}{t t':TG}(h:PG X e t)(w:∀v σ H Q,t' v σ H Q->t v σ H Q):PG X e t':=fun pins s σ H v u Q I r q=>h pins s σ H v u Q I r (w v σ H Q q)
theorem Oc{e:List Expr}{t t':LN}(h:DX X e t)(w:∀v σ H Q,t' v σ H Q->t v σ H Q):DX X e t':=fun pins s σ H v u Q I r q=>h pins s σ H v u Q I r (w v σ H Q q)
theorem gN(i:Nat){x:Str}(hN:X.N.Nodup)(hi:X.N[i]?=some x:=by rfl)(hx:Loc X.env.scope x:=by first|exact Or.inl rfl|exact Or.inr rfl)(hf:X.fn x=true\/X.env.scope.names.lookup x=some .local:=by first|exact .inl rfl|exact .inr rfl|assumption):
  PG X (.Name x pos) (tG X.K E fun d env=>.ok (env.set i (.val d))):=VA (zj hN hi hx hf) fun v σ H Q ⟨g,env,os,d,r,h,m⟩=>m _ (r.set i h)
theorem VB:DX X [] (Ob X.K E fun ds env=>match ds with
  |[]=>.ok env
  |_=>.bad):=Oc LO fun vs σ H Q ⟨g,env,os,ds,r,h,m⟩=>by
 cases ds with
 |nil=>exact⟨h,m σ r⟩
 |cons _ _=>exact m.elim
theorem Q7{e:Expr}{es:List Expr}{b:D->DE->R DE}{k:List D->DE->R DE}(h1:PG X e (tG X.K E b))(h2:DX X es (Ob X.K E k))(hs:(assignEach (e::es) X.env).map (·.2)=assign e X.env::(assignEach es X.env).map (·.2):=by rfl):
  DX X (e::es) (Ob X.K E fun ds env=>match ds with
   |d::r=>(b d env).bind fun e'=>k r e'
   |_=>.bad):=Oc (HH h1 h2 hs) fun vs σ H Q ⟨g,env,os,ds,r,h,m⟩=>by
 cases ds with
 |nil=>exact m.elim
 |cons d rest=>
  obtain⟨v,vr,rfl,p,q⟩:=h
  have m':Good E g.H₀ ((b d env).bind fun e'=>k rest e') _:=m
  exact⟨v,vr,rfl,g,env,os,d,r,p,m'.bind.mono fun e' _ m2 σ' r'=>⟨g,e',os,rest,r',q,m2⟩⟩
theorem gT{es:List Expr}{kk:Nat}{b:List D->DE->R DE}{n:Nat}(hc:X.calm=true)(h:DX X es (Ob X.K E b))(hn:(assignEach es X.env).length=n:=by rfl)(hst:(assignEach es X.env).findIdx? (·.1)=none:=by rfl):
  PG X (.Tuple es kk pos) (tG X.K E fun d env=>match d with
   |.tup ds=>if ds.length=n then b ds env else .bad
   |_=>.bad):=VA (QA hc h hn hst) fun v σ H Q ⟨g,env,os,d,r,h,m⟩=>by
 cases d with
 |tup ds=>
  obtain⟨a,vs,rfl,h1,h2⟩:=h
  have m':Good E g.H₀ (if ds.length=n then b ds env else .bad) _:=m
  split at m'
  ·rename_i c
   exact⟨a,vs,rfl,h1.sq,by rw[IsL.length h2];exact c,g,env,os,ds,r,h2,m'⟩
  ·exact m'.elim
 |non=>exact m.elim
 |bl _=>exact m.elim
 |int _=>exact m.elim
 |str _=>exact m.elim
 |lst _=>exact m.elim
 |exc _=>exact m.elim
 |fn _=>exact m.elim
theorem vz{tg iter:Expr}{body:List Stmt}{f:DE->R (List D)}{b:D->DE->R DE}{k:DE->R Out}(hp:PassesOwn (model X.prog X.w) X.A X.env X.xe)(hc:X.calm=true)(hi:PI X tg iter (tI X.K E f))(hg:PG X tg (tG X.K E b))(hb:qD X body (tS X.K E k))
  (hs:∀x,foldedSetIterable iter X.env x=pure x:=by intro _;rfl):PS X (.For tg iter body [] pos) (tS X.K E fun env=>(f env).bind fun xs=>dH (fun d e=>(b d e).bind k) xs env):=
 oQ (HM hp hc hi hg hb hs) fun De σ H ⟨g,env,os,r,m⟩=>⟨g,env,os,r,m.bind.mono fun xs _ m1 J H1 s1 yl=>by
  refine⟨fun i n σ' H'=>n=xs.length-i/\i<=xs.length/\∃nJ fM,Rel X.K g nJ σ' H' fM/\qW H1 os H' fM/\Good E g.H₀ (dH (fun d e=>(b d e).bind k) (xs.drop i) nJ) (dZ X.K g H' fM De),
   ⟨xs.length,by simp,zero_le _,env,os,r.same s1,.refl _ _,by rw[drop_zero];exact m1.mono fun o _ q=>dZ.step (.same s1 os) q⟩,?_⟩
  rintro i n σ' H' ⟨rfl,hi,nJ,fM,r',st,m2⟩
  obtain⟨y1,y2⟩:=yl i H' (g.P fM) st.ext
  by_cases hlt:i<xs.length
  ·have hx:xs[i]?=some xs[i]:=getElem?_eq_getElem hlt
   obtain⟨go,y3⟩:=y1 _ hx
   rw[List.drop_eq_getElem_cons hlt]at m2
   refine .inr ⟨go,fun σ2 H2=>∃Iz Mh,Rel X.K g Iz σ2 H2 Mh/\qW H1 os H2 Mh/\Good E g.H₀ (dH (fun d e=>(b d e).bind k) (xs.drop (i+1)) Iz) (dZ X.K g H2 Mh De),fun σ2 H2 ⟨e2,o2,r2,t2,g2⟩=>⟨xs.length-(i+1),by omega,rfl,hlt,e2,o2,r2,t2,g2⟩,fun x H2 hy=>?_⟩
   obtain⟨s2,VC⟩:=y3 x H2 hy
   have r2:=r'.same s2
   have ix:Is X.K (g.P fM) H2 xs[i] x:=Is.ext ⟨fun a o p _=>p.elim (fun z=>z) fun z=>r'.fresh z,fun _ _ _ z=>z⟩ _ _ VC
   have m3:Good E g.H₀ (((b xs[i] nJ).bind k).bind _) _:=m2
   refine⟨g,nJ,fM,xs[i],r2,ix,m3.bind.bind.mono fun e3 _ m4 σ3 r3=>⟨g,e3,fM,r3,Good.mono m4 fun o _ q=>?_⟩⟩
   have Ll:=st.trans (qW.same s2 fM)
   cases o with
   |nx e4=>exact fun σ4 H4 IA r4 z=>⟨e4,IA,r4,Ll.trans z,Good.mono (show Good E g.H₀ (dH _ _ e4) _ from q) fun o _ q=>dZ.step ((qW.same s2 fM).trans z) q⟩
   |ct e4=>exact fun σ4 H4 IA r4 z=>⟨e4,IA,r4,Ll.trans z,Good.mono (show Good E g.H₀ (dH _ _ e4) _ from q) fun o _ q=>dZ.step ((qW.same s2 fM).trans z) q⟩
   |bk e4=>exact fun σ4 H4 IA r4 z=>(show dZ X.K g H' fM De (.nx e4)from q) σ4 H4 IA r4 ((qW.same s2 fM).trans z)
   |rt d=>exact q
   |oF ys=>exact q
   |Hm ys=>exact q
   |Gr ys=>exact q
   |Hl ys=>exact q
   |AU ys=>exact q
  ·have e:i=xs.length:=by omega
   subst e
   rw[drop_length]at m2
   exact .inl ⟨y2 rfl,(show dZ X.K g H' fM De (.nx nJ)from m2) σ' H' fM r' (.refl _ _)⟩⟩
theorem IB{c:Expr}{body:List Stmt}{fc:DE->R Bool}{k:DE->R Out}(fuel:DE->Nat)(hp:PassesOwn (model X.prog X.w) X.A X.env X.xe)(hc:PT X c (tT X.K E fc))(hb:qD X body (tS X.K E k)):
  PS X (.While c body [] pos) (tS X.K E fun env=>iS fc k (fuel env) env):=
 oQ (rz hp hc hb) fun De σ H ⟨g,env,os,r,m⟩=>by
  refine⟨fun n σ' H'=>∃nJ fM,Rel X.K g nJ σ' H' fM/\Good E g.H₀ (iS fc k n nJ) (dZ X.K g H' fM De),⟨fuel env,env,os,r,m⟩,?_⟩
  rintro n σ' H' ⟨nJ,fM,r',m2⟩
  cases n with
  |zero=>exact m2.elim
  |succ n=>
   have m3:Good E g.H₀ ((fc nJ).bind _) _:=m2
   refine⟨g,nJ,fM,r',m3.bind.mono fun t _ m4 H2 s2=>?_⟩
   cases t with
   |false=>
    rw[if_neg Bool.false_ne_true]
    exact(show dZ X.K g H' fM De (.nx nJ)from m4) σ' H2 fM (r'.same s2) (.same s2 fM)
   |true=>
    rw[if_pos rfl]
    have m5:Good E g.H₀ ((k nJ).bind _) _:=m4
    refine⟨fun σ2 H2'=>∃Iz Mh,Rel X.K g Iz σ2 H2' Mh/\Good E g.H₀ (iS fc k n Iz) (dZ X.K g H2' Mh De),fun σ2 H3 q=>⟨n,lt_succ_self n,q⟩,g,nJ,fM,r'.same s2,m5.bind.mono fun o _ q=>?_⟩
    cases o with
    |nx e4=>exact fun σ4 H4 IA r4 z=>⟨e4,IA,r4,Good.mono (show Good E g.H₀ (iS _ _ n e4) _ from q) fun o _ q=>dZ.step ((qW.same s2 fM).trans z) q⟩
    |ct e4=>exact fun σ4 H4 IA r4 z=>⟨e4,IA,r4,Good.mono (show Good E g.H₀ (iS _ _ n e4) _ from q) fun o _ q=>dZ.step ((qW.same s2 fM).trans z) q⟩
    |bk e4=>exact fun σ4 H4 IA r4 z=>(show dZ X.K g H' fM De (.nx e4)from q) σ4 H4 IA r4 ((qW.same s2 fM).trans z)
    |rt d=>exact q
    |oF ys=>exact q
    |Hm ys=>exact q
    |Gr ys=>exact q
    |Hl ys=>exact q
    |AU ys=>exact q
end
def aG(n:Nat)(ds:List D):DE:=ds.map .val++replicate (n-ds.length) .no
theorem uc{K:PySem.W.Frag}{N:List Str}{P:Addr->Prop}{H:Hp}{ds:List D}{vs:List V}(h:IsL K P H ds vs):Rel K ⟨P,H⟩ (aG N.length ds) (L2.start N vs) H []:=by
 have hl:=h.length
 refine⟨by simp[aG,L2.start,hl],aH.refl H,fun i d e=>?_,fun i xs e=>?_,fun i j xs ys a e=>?_,(fun a ha=>nomatch ha),fun i v e=>?_,CS.none fun i v e=>?_⟩
 ·unfold aG at e
  by_cases hi:i<ds.length
  ·rw[getElem?_append_left (by simpa using hi),getElem?_map,getElem?_eq_getElem hi]at e
   have e':Sl.val ds[i]=Sl.val d:=Option.some.inj e
   cases e'
   obtain⟨v,h1,h2⟩:=h.get (getElem?_eq_getElem hi)
   refine⟨v,?_,Is.ext ⟨fun a o p _=>⟨.inl p,by simp⟩,fun _ _ _ z=>z⟩ _ _ h2⟩
   unfold L2.start
   rw[getElem?_append_left (by simp;omega),getElem?_map,h1]<;>rfl
  ·rw[getElem?_append_right (by simp;omega)]at e
   have:=getElem?_replicate (n:=N.length-ds.length) (a:=Sl.no) (i:=i-(ds.map Sl.val).length)
   rw[this]at e
   split at e<;>cases e
 ·exfalso
  unfold aG at e
  by_cases hi:i<ds.length
  ·rw[getElem?_append_left (by simpa using hi),getElem?_map,getElem?_eq_getElem hi]at e
   cases e
  ·rw[getElem?_append_right (by simp;omega)]at e
   have:=getElem?_replicate (n:=N.length-ds.length) (a:=Sl.no) (i:=i-(ds.map Sl.val).length)
   rw[this]at e
   split at e<;>cases e
 ·exfalso
  unfold aG at e
  by_cases hi:i<ds.length
  ·rw[getElem?_append_left (by simpa using hi),getElem?_map,getElem?_eq_getElem hi]at e
   cases e
  ·rw[getElem?_append_right (by simp;omega)]at e
   have:=getElem?_replicate (n:=N.length-ds.length) (a:=Sl.no) (i:=i-(ds.map Sl.val).length)
   rw[this]at e
   split at e<;>cases e
 ·exfalso
  unfold aG at e
  by_cases hi:i<ds.length
  ·rw[getElem?_append_left (by simpa using hi),getElem?_map,getElem?_eq_getElem hi]at e
   cases e
  ·rw[getElem?_append_right (by simp;omega)]at e
   have:=getElem?_replicate (n:=N.length-ds.length) (a:=Sl.no) (i:=i-(ds.map Sl.val).length)
   rw[this]at e
   split at e<;>cases e
 ·exfalso
  unfold aG at e
  by_cases hi:i<ds.length
  ·rw[getElem?_append_left (by simpa using hi),getElem?_map,getElem?_eq_getElem hi]at e
   cases e
  ·rw[getElem?_append_right (by simp;omega)]at e
   have:=getElem?_replicate (n:=N.length-ds.length) (a:=Sl.no) (i:=i-(ds.map Sl.val).length)
   rw[this]at e
   split at e<;>cases e
def aj:Out->R D
 |.rt d=>.ok d
 |.oF xs=>.ok (.lst xs)
 |.nx _=>.ok .non
 |_=>.bad
def ak:Out->R (List D)
 |.oF xs=>.ok xs
 |_=>.bad
abbrev EN:Str->Hp->Prop:=fun _ _=>False
section
variable{P:Program}{w:World}{K:PySem.W.Frag}{mg:Str->Option Value}{base:Heap}
theorem Is.P0 {Q:Addr->Prop}{H H':Hp}{d:D}{v:V}(h:Is K ((⟨Q,H⟩:Gh).P []) H' d v):Is K (fun a=>Q a\/H a=none) H' d v:=Is.ext ⟨fun _ _ p _=>p.1,fun _ _ _ z=>z⟩ _ _ h
theorem ZA{x qual:Str}{st:Stmt}{f:Addr}{fd:FuncData}{N ps:List Str}{k:Nat}{xc:Str->Value}{m:List D->R D}{b:DE->R Out}(F:AM K x qual st f fd)(S:az N ps (ae st))
  (hm:∀ds d,m ds=.ok d->ds.length=ps.length/\(b (aG N.length ds)).bind aj=.ok d)(hne:∀ds c,m ds≠.err c)
  (hb:∀(cdv:Value)(A:Around)(outer:List Env)(s:Shared)(H:Hp)(E:XK),bu k (A.deeper (envOfC qual (ae st) s.heap.objs.size f cdv))->qD (qV lB P w K mg base N qual (ae st) f cdv A outer s H E).Hg (bH st) (tS K EN b)):
  cu P w K mg base lB (k+1) f fd ps (D9 K xc m):=by
 refine F.ok S (fun vs H Q E h=>?_) (fun cdv A outer s H vs Q E hr h=>?_)
 ·obtain⟨Pa,ds,i,h⟩:=h
  cases e:m ds with
  |ok d=>rw[i.length];exact(hm ds d e).1
  |err c=>exact(hne ds c e).elim
  |bad=>rw[e]at h;exact h.elim
 ·obtain⟨Pa,ds,i,h⟩:=h
  refine⟨_,hb cdv A outer s H E hr,⟨⟨Pa,H⟩,aG N.length ds,[],uc i,?_⟩⟩
  cases e:m ds with
  |err c=>exact(hne ds c e).elim
  |bad=>rw[e]at h;exact h.elim
  |ok d=>
   rw[e]at h
   obtain⟨_,q⟩:=hm ds d e
   cases eb:b (aG N.length ds)with
   |bad=>rw[eb]at q;cases q
   |err c=>rw[eb]at q;cases q
   |ok o=>
    rw[eb]at q
    cases o with
    |rt d'=>
     cases q
     exact fun v H' s' i'=>h v H' s' i'.P0
    |oF xs=>
     cases q
     intro a D7 H' s' hn hH i'
     exact h _ H' s' ⟨a,D7,rfl,.inl ⟨.inr hn,.inl hH⟩,IsL.ext ⟨fun b o p _=>p.1,fun _ _ _ z=>z⟩ _ _ i'⟩
    |nx e'=>
     cases q
     exact fun σ' H' fM r' _=>h _ H' r'.ext rfl
    |Hm _=>cases q
    |Gr _=>cases q
    |Hl _=>cases q
    |AU _=>cases q
    |bk _=>cases q
    |ct _=>cases q
theorem ZC{x qual:Str}{st:Stmt}{f:Addr}{fd:FuncData}{N ps:List Str}{k:Nat}{xc:Str->Value}{m:List D->R (List D)}{b:DE->R Out}(F:AM K x qual st f fd)(S:az N ps (ae st))
  (hm:∀ds d,m ds=.ok d->ds.length=ps.length/\(b (aG N.length ds)).bind ak=.ok d)(hne:∀ds c,m ds≠.err c)
  (hb:∀(cdv:Value)(A:Around)(outer:List Env)(s:Shared)(H:Hp)(E:XK),bu k (A.deeper (envOfC qual (ae st) s.heap.objs.size f cdv))->qD (qV lB P w K mg base N qual (ae st) f cdv A outer s H E).Hg (bH st) (tS K EN b)):
  cu P w K mg base lB (k+1) f fd ps (Lo K xc m):=by
 refine F.ok S (fun vs H Q E h=>?_) (fun cdv A outer s H vs Q E hr h=>?_)
 ·obtain⟨Pa,ds,i,h⟩:=h
  cases e:m ds with
  |ok d=>rw[i.length];exact(hm ds d e).1
  |err c=>exact(hne ds c e).elim
  |bad=>rw[e]at h;exact h.elim
 ·obtain⟨Pa,ds,i,h⟩:=h
  refine⟨_,hb cdv A outer s H E hr,⟨⟨Pa,H⟩,aG N.length ds,[],uc i,?_⟩⟩
  cases e:m ds with
  |err c=>exact(hne ds c e).elim
  |bad=>rw[e]at h;exact h.elim
  |ok d=>
   rw[e]at h
   obtain⟨_,q⟩:=hm ds d e
   cases eb:b (aG N.length ds)with
   |bad=>rw[eb]at q;cases q
   |err c=>rw[eb]at q;cases q
   |ok o=>
    rw[eb]at q
    cases o with
    |rt d'=>cases q
    |oF xs=>
     cases q
     intro a D7 H' s' hn hH i'
     exact h a D7 H' s' hn hH (IsL.ext ⟨fun b o p _=>⟨p.1,fun z=>p.2 (by simp[z])⟩,fun _ _ _ z=>z⟩ _ _ i')
    |nx e'=>cases q
    |Hm _=>cases q
    |Gr _=>cases q
    |Hl _=>cases q
    |AU _=>cases q
    |bk _=>cases q
    |ct _=>cases q
end
def Aq(cells:List (Str×Addr)):List (Str×NameKind)->List (Str×Addr)->List (Str×Addr)
 |[],acc=>acc
 |(n,k)::r,acc=>if(k==NameKind.free)=true then Aq cells r ((n,(cells.lookup n).getD 0)::acc)else Aq cells r acc
theorem qI{scope:Scope}{env:Env}(h:∀y∈scope.names,y.2=.free->∃c,env.cells.lookup y.1=some c):closureFor scope env=pure (Aq env.cells scope.names []):=by
 have gen:∀(l:List (Str×NameKind))(acc:List (Str×Addr)),(∀y∈l,y.2=.free->∃c,env.cells.lookup y.1=some c)->
   (forIn l acc fun(x:Str×NameKind)(r:List (Str×Addr))=>(if(x.2==NameKind.free)=true then(do let a<-cellOf env x.1;pure (ForInStep.yield ((x.1,a)::r)))else pure (ForInStep.yield r):Sem (ForInStep (List (Str×Addr)))))=pure (Aq env.cells l acc):=by
  intro l
  induction l with
  |nil=>intro acc _;rfl
  |cons y r ih=>
   intro acc hy
   obtain⟨n,k⟩:=y
   rw[List.forIn_cons]
   have hr:∀y∈r,y.2=.free->∃c,env.cells.lookup y.1=some c:=fun y h=>hy y (mem_cons_of_mem _ h)
   by_cases hk:(k==NameKind.free)=true
   ·obtain⟨c,hc⟩:=hy (n,k) mem_cons_self (by simpa using hk)
    have HB:env.cells.lookup n=some c:=hc
    simp only [hk,if_true,Aq,cellOf,HB,Option.getD_some]
    exact ih _ hr
   ·simp only [hk,Aq]
    exact ih _ hr
 show((forIn scope.names ([]:List (Str×Addr)) fun(x:Str×NameKind)(r:List (Str×Addr))=>(if(x.2==NameKind.free)=true then(do let a<-cellOf env x.1;pure (ForInStep.yield ((x.1,a)::r)))else pure (ForInStep.yield r):Sem (ForInStep (List (Str×Addr)))))>>=fun s=>pure s)=_
 rw[gen scope.names [] h]
 rfl
theorem qY{cells:List (Str×Addr)}{x:Str}:∀(l:List (Str×NameKind))(acc:List (Str×Addr)),(∀y∈l,y.2=.free->∃c,cells.lookup y.1=some c)->(∀c,acc.lookup x=some c->cells.lookup x=some c)->
  ∀c,(Aq cells l acc).lookup x=some c->cells.lookup x=some c
 |[],acc,_,h,c,e=>h c e
 |(n,k)::r,acc,hy,h,c,e=>by
  unfold Aq at e
  have hr:∀y∈r,y.2=.free->∃c,cells.lookup y.1=some c:=fun y h=>hy y (mem_cons_of_mem _ h)
  split at e
  ·rename_i hk
   refine qY r _ hr (fun c' e'=>?_) c e
   rw[lookup_cons]at e'
   obtain⟨c0,hc0⟩:=hy (n,k) mem_cons_self (by simpa using hk)
   have VD:cells.lookup n=some c0:=hc0
   cases hx:x==n with
   |true=>
    rw[hx]at e'
    have ex:x=n:=by simpa using hx
    rw[VD]at e'
    cases e'
    rw[ex];exact VD
   |false=>
    rw[hx]at e'
    exact h c' e'
  ·exact qY r _ hr h c e
theorem vU{cells:List (Str×Addr)}{x:Str}:∀(l:List (Str×NameKind))(acc:List (Str×Addr)),((∃c,acc.lookup x=some c)\/(x,NameKind.free)∈l)->∃c,(Aq cells l acc).lookup x=some c
 |[],acc,h=>h.elim (fun z=>z) fun z=>nomatch z
 |(n,k)::r,acc,h=>by
  unfold Aq
  split
  ·rename_i hk
   refine vU r _ ?_
   by_cases hx:x=n
   ·exact .inl ⟨_,by rw[lookup_cons,beq_iff_eq.mpr hx]⟩
   ·rcases h with⟨c,h⟩|h
    ·refine .inl ⟨c,?_⟩
     rw[lookup_cons,beq_eq_false_iff_ne.mpr hx];exact h
    ·rcases mem_cons.mp h with z|z
     ·cases z;exact absurd rfl hx
     ·exact .inr z
  ·rename_i hk
   refine vU r _ ?_
   rcases h with h|h
   ·exact .inl h
   ·rcases mem_cons.mp h with z|z
    ·cases z;exact absurd (by simp) hk
    ·exact .inr z
def ud(X:Cx)(scope:Scope)(N:List Str)(s:Shared)(H:Hp)(fp:List Addr)(C:Addr)(pl:List (Addr×Obj)):Cx where
 prog:=X.prog
 w:=X.w
 K:=X.K
 mg:=X.mg
 base:=X.base
 A:=X.A
 N:=N
 s₀:=s
 H₀:=H
 env:=compEnvC scope (Aq X.env.cells scope.names []) C X.env
 outer:=X.stack
 stack:=X.stack
 ex:=fp
 fn:=fun _=>false
 calm:=X.calm
 pn:=pl
 xe:=fun _ _=>False
structure jc(X:Cx)(scope:Scope)(N:List Str)(nt:Nat)(caps:List Nat):Prop where
 kind:scope.kind=.function
 cell:∀y∈scope.names,y.2≠.cell
 names:∀y∈scope.names,y.2=.local->scope.names.lookup y.1=some .local
 free:∀y∈scope.names,y.2=.free->X.env.kindOf y.1=some .cell\/X.env.kindOf y.1=some .free
 len:N.length=nt+caps.length
 nd:N.Nodup
 caps:∀(j i:Nat),caps[j]?=some i->∃x,N[nt+j]?=some x/\X.N[i]?=some x/\scope.names.lookup x=some .free/\wz X.env.scope x
theorem gE{scope:Scope}{env:Env}{x:Str}{k:NameKind}(h:(relabel scope env).names.lookup x=some k):∃k',scope.names.lookup x=some k'/\(k=k'\/(k'=.free/\k=.cell)):=by
 unfold relabel at h
 dsimp only at h
 generalize scope.names=l at h
 induction l with
 |nil=>cases h
 |cons y r ih=>
  obtain⟨n,kk⟩:=y
  rw[map_cons]at h
  by_cases hc:(kk==NameKind.free&&env.scope.kind==.function&&env.kindOf n==some .cell)=true
  ·simp only [hc,if_true]at h
   rw[lookup_cons]at h⊢
   cases hx:x==n with
   |true=>
    rw[hx]at h
    cases h
    simp only [and_eq_true]at hc
    exact⟨kk,rfl,.inr ⟨by simpa using hc.1.1,rfl⟩⟩
   |false=>
    rw[hx]at h
    exact ih h
  ·simp only [hc,false_eq_true,if_false]at h
   rw[lookup_cons]at h⊢
   cases hx:x==n with
   |true=>
    rw[hx]at h
    exact⟨kk,rfl,.inl (Option.some.inj h).symm⟩
   |false=>
    rw[hx]at h
    exact ih h
theorem mem_of_lookup{α:Type}{l:List (Str×α)}{x:Str}{k:α}(h:l.lookup x=some k):(x,k)∈l:=by
 induction l with
 |nil=>cases h
 |cons y r ih=>
  obtain⟨n,kk⟩:=y
  rw[lookup_cons]at h
  cases hx:x==n with
  |true=>
   rw[hx]at h
   cases h
   have ex:x=n:=by simpa using hx
   rw[ex];exact mem_cons_self
  |false=>
   rw[hx]at h
   exact mem_cons_of_mem _ (ih h)
section
variable{X:Cx}{scope:Scope}{N:List Str}{nt:Nat}{caps:List Nat}{pins:List (Addr×Obj)}{σ:St}{H:Hp}{s:Shared}
theorem jc.cells (S:jc X scope N nt caps)(I:Inv X pins σ H s):∀y∈scope.names,y.2=.free->∃c,X.env.cells.lookup y.1=some c:=fun y hy hf=>I.ok.has y.1 (S.free y hy hf)
theorem jc.lk (S:jc X scope N nt caps)(I:Inv X pins σ H s){x:Str}{c:Addr}(h:(Aq X.env.cells scope.names []).lookup x=some c):X.env.cells.lookup x=some c:=
 qY scope.names [] (S.cells I) (fun c e=>by cases e) c h
theorem jc.start (S:jc X scope N nt caps)(I:Inv X pins σ H s){fp:List Addr}(hf:∀b∈fp,nA X pins H b){C:Addr}{h':Heap}{m:Str->Option Value}{t':Nat}(hC:s.heap.objs.size<=C)(hn:h'.Ns C m)(k:∀b o,s.heap.get? b=some o->h'.get? b=some o)
  (hpin:∀b∈fp,∃o,s.heap.get? b=some o)
  {vs:List V}(hv:vs.length=caps.length)(hvs:∀(j i:Nat)(v:V),caps[j]?=some i->vs[j]?=some v->σ[i]?=some (some v))(σ':St)(hσ:σ'=replicate nt none++vs.map some):
  Inv (ud X scope N s H fp C (X.pn++pins)) [] σ' H {s with heap:=h',toks:=t'}:=by
 subst hσ
 have hH:∀b,s.heap.objs.size<=b->H b=none:=fun b hb=>I.hok.fresh hb
 have lk:=fun{x c}(h:(Aq X.env.cells scope.names []).lookup x=some c)=>S.lk I h
 have ok:(ud X scope N s H fp C (X.pn++pins)).Ok:={
  mod:=I.ok.mod
  kind:=S.kind
  glob:=I.ok.glob
  blt:=I.ok.blt
  above:=hC
  inj:=fun x y c h1 h2=>I.ok.inj x y c (lk h1) (lk h2)
  has:=fun x h=>by
   have h':(relabel scope X.env).names.lookup x=some .cell\/(relabel scope X.env).names.lookup x=some .free:=h
   have hfree:scope.names.lookup x=some .free:=by
    rcases h' with h'|h'
    ·obtain⟨k',e,q⟩:=gE h'
     rcases q with rfl|⟨rfl,_⟩
     ·exact absurd rfl (S.cell _ (mem_of_lookup e))
     ·exact e
    ·obtain⟨k',e,q⟩:=gE h'
     rcases q with rfl|⟨rfl,q⟩
     ·exact e
     ·exact e
   exact vU scope.names [] (.inr (mem_of_lookup hfree))
  T8:=fun x c h=>nomatch h
  hd:=I.ok.hd
  frames:=I.ok.frames
  UJ:=.inl rfl
  UK:=fun b hb=>by
   obtain⟨o,e⟩:=hpin b hb
   exact⟨fun z=>absurd (lt_of_lt_of_le (Heap.lt_size e) (by rw[z];exact hC)) (Nat.lt_irrefl _),fun x c h=>(hf b hb).2.2.2.2.1 x c (lk h)⟩
  bs:=I.bs
  Lj:=le_trans I.ok.Lj I.sz
  F3:=fun b o e hb=>by
   rcases(hf b hb).2.2.2.1 with z|z
   ·exact I.ok.F3 b o e z
   ·exact absurd (lt_of_lt_of_le (Heap.lt_size e) (le_trans I.ok.Lj z)) (Nat.lt_irrefl _)
  Cw:=fun b hb z=>by
   rcases mem_cons.mp (I.zg b z)with q|q
   ·exact(hf b hb).2.1 q
   ·exact(hf b hb).2.2.1 q
  tJ:=I.stack
  NZ:=I.DV}
 refine⟨ok,rfl,I.bare,Un.kept k,⟨m,hn,fun i x v e1 e2 e3=>?_⟩,fun x c e=>?_,hH C hC,fun x c e=>I.qC x c (lk e),fun p hp=>?_,I.hok.kept k,?_⟩
 ·have hi:nt<=i:=by
   refine Nat.le_of_not_lt fun z=>?_
   rw[getElem?_append_left (by simpa using z),getElem?_replicate]at e2
   split at e2<;>cases e2
  rw[getElem?_append_right (by simpa using hi),getElem?_map]at e2
  have Ud:(vs[i-nt]?).map some=some (some v):=by simpa using e2
  cases q:vs[i-nt]? with
  |none=>rw[q]at Ud;cases Ud
  |some v'=>
   rw[q]at Ud
   cases Ud
   have hj:i-nt<caps.length:=by rw[<-hv];exact(List.getElem?_eq_some_iff.mp q).1
   obtain⟨x',h1,h2,h3,h4⟩:=S.caps (i-nt) caps[i-nt] (getElem?_eq_getElem hj)
   have ex:x'=x:=by
    have Mg:N[i]?=some x:=e1
    rw[show nt+(i-nt)=i by omega,Mg]at h1
    exact(Option.some.inj h1).symm
   subst ex
   have hs:=hvs (i-nt) _ v (getElem?_eq_getElem hj) q
   obtain⟨m0,hn0,hl0⟩:=I.loc
   obtain⟨u,r,l⟩:=hl0 _ x' v h2 hs h4
   refine⟨u,r,?_⟩
   have hkx:=S.free _ (mem_of_lookup h3) rfl
   rcases l with⟨k1,_⟩|⟨k1,c,hc,hcell⟩
   ·have X0:X.env.kindOf x'=some .local:=k1
    rcases hkx with z|z
    ·have z':X.env.kindOf x'=some .cell:=z
     rw[X0]at z';cases z'
    ·have z':X.env.kindOf x'=some .free:=z
     rw[X0]at z';cases z'
   ·obtain⟨c',HB⟩:=vU (cells:=X.env.cells) (x:=x') scope.names [] (.inr (mem_of_lookup h3))
    have:=lk HB
    rw[hc]at this
    cases this
    refine .inr ⟨?_,c,HB,let⟨o,ho,hd⟩:=hcell;⟨o,k _ o ho,hd⟩⟩
    rcases e3 with z|z|z
    ·exfalso
     obtain⟨k',e,q⟩:=gE (show(relabel scope X.env).names.lookup x'=some .local from z)
     rcases q with rfl|⟨_,q⟩
     ·rw[h3]at e;cases e
     ·cases q
    ·exact .inl z
    ·exact .inr z
 ·obtain⟨v,z⟩:=I.cell x c (lk e)
  exact⟨v,let⟨o,ho,hd⟩:=z;⟨o,k _ o ho,hd⟩⟩
 ·have Ue:p∈X.pn++pins:=by simpa[ud]using hp
  obtain⟨e,n,ne,nf,d⟩:=I.pin p Ue
  refine⟨k _ _ e,n,fun z=>absurd (lt_of_lt_of_le (Heap.lt_size e) (by rw[z];exact hC)) (Nat.lt_irrefl _),fun z=>?_,d⟩
  rcases mem_cons.mp (I.zg _ z)with q|q
  ·exact ne q
  ·exact nf q
 ·show(replicate nt none++vs.map some).length=N.length
  rw[S.len];simp[hv]
end
section
variable{prog:Program}{w:World}{A:Around}{E:Value->Shared->Prop}{R:Result->Shared->Prop}{s:Shared}
theorem uU{elt target iter:Expr}{ifs:List Expr}{scope:Scope}{pos:Pos}{it acc:Value}{env:Env}(I:Nat->Shared->Prop)
  (turn:∀n s,I n s->wpAny (model prog w) A (pyNext it) (fun r s₁=>match r with
   |none=>R (.ok .next) s₁
   |some v=>wpAny (model prog w) A (letOwnedTupleGo target it v) (fun _ s₁'=>wpAny (model prog w) A (assign target env v) (fun _ s₂=>
     wpAny (model prog w) A (forIn ifs true fun c r=>if r=true then do let ok<-isTrue c env (eval c env);pure (ForInStep.yield ok)else pure (ForInStep.yield r)) (fun ok s₃=>
      if ok=true then wpAny (model prog w) A (eval elt env) (fun x s₄=>
       wpAny (model prog w) A (call (.builtin "list.append") [acc,x]) (fun _ s₅=>∃m,m<n/\I m s₅) (fun _ _=>False) s₄) (fun _ _=>False) s₃
      else∃m,m<n/\I m s₃) (fun _ _=>False) s₂) (fun _ _=>False) s₁') (fun _ _=>False) s₁) (fun _ _=>False) s)
  (n:Nat)(h:I n s):
  codeAny (model prog w) A (.compLoop (.ListComp elt [⟨target,iter,ifs,0⟩] scope pos) 0 it acc env) R s:=by
 refine codeAny_loop rfl I (fun n s hI=>?_) n h
 show wpAny _ A ((compTurn (.ListComp elt [⟨target,iter,ifs,0⟩] scope pos) 0 it acc env).onRaise (fun x=>do noteFrame x env;theTreesLotGoes x)) _ _ s
 refine wpAny_noted ?_
 rw[compTurn_list]
 refine wpAny_bind (wpAny_standAt (wpAny_bind (wpAny_mono (turn n s hI) (fun r s₁ h₁=>?_) fun _ _ h'=>h'.elim)))
 cases r with
 |none=>exact wpAny_pure h₁
 |some v=>
  refine wpAny_bind (wpAny_mono h₁ (fun _ s₁' h₁'=>?_) fun _ _ h'=>h'.elim)
  refine wpAny_bind (wpAny_mono h₁' (fun _ s₂ h₂=>wpAny_bind (wpAny_mono h₂ (fun ok s₃ h₃=>?_) fun _ _ h'=>h'.elim)) fun _ _ h'=>h'.elim)
  cases ok with
  |false=>exact wpAny_pure ⟨rfl,h₃⟩
  |true=>
   exact wpAny_bind (wpAny_bind (wpAny_mono h₃ (fun x s₄ h₄=>wpAny_bind (wpAny_mono h₄ (fun _ s₅ h₅=>wpAny_pure (wpAny_pure ⟨rfl,h₅⟩)) fun _ _ h'=>h'.elim)) fun _ _ h'=>h'.elim))
end
def X1(X:Cx)(ifs:List Expr)(t:TT):Prop:=
 ∀(pins:List (Addr×Obj))(s:Shared)(σ:St)(H:Hp)(Q:Bool->Hp->Prop),Inv X pins σ H s->t σ H Q->
  wpAny (model X.prog X.w) X.A (forIn ifs true fun c r=>if r=true then do let ok<-isTrue c X.env (eval c X.env);pure (ForInStep.yield ok)else pure (ForInStep.yield r)) (TP X pins σ Q) X.xe s
theorem Lp{X:Cx}{E:Str->Hp->Prop}:X1 X [] (tT X.K E fun _=>.ok true):=fun pins s σ H Q I ⟨g,env,os,r,m⟩=>wpAny_tests_nil ⟨H,I,m H (aH.refl H)⟩
theorem ts1{X:Cx}{E:Str->Hp->Prop}{c:Expr}{f:DE->R Bool}(h:PT X c (tT X.K E f)):X1 X [c] (tT X.K E f):=fun pins s σ H Q I q=>wpAny_tests_one (h pins s σ H Q I q)
def cy(b:D->DE->R DE)(ct:DE->R Bool)(fe:DE->R D)(e₀:DE):List D->R (List D)
 |[]=>.ok []
 |x::xs=>(b x e₀).bind fun e=>(ct e).bind fun t=>if t=true then(fe e).bind fun d=>(cy b ct fe e₀ xs).bind fun ds=>.ok (d::ds)else cy b ct fe e₀ xs
def fO(env:DE):List Nat->R (List D)
 |[]=>.ok []
 |i::r=>(bQ i env).bind fun d=>(fO env r).bind fun ds=>.ok (d::ds)
theorem Good.fO {K:PySem.W.Frag}{E:Str->Hp->Prop}{H₀ H:Hp}{g:Gh}{σ:St}{os:List Addr}{env:DE}(r:Rel K g env σ H os):∀{caps:List Nat}{p:List D->Prop},Good E H₀ (fO env caps) p->
  ∃ds vs,p ds/\vs.length=caps.length/\ds.length=caps.length/\IsL K (g.P os) H ds vs/\∀(j i:Nat)(v:V),caps[j]?=some i->vs[j]?=some v->σ[i]?=some (some v)
 |[],p,h=>⟨[],[],h,rfl,rfl,rfl,fun j i v e=>by simp at e⟩
 |i::rest,p,h=>by
  have h1:=h.bind
  unfold bQ at h1
  split at h1
  ·rename_i d e
   have h2:Good E H₀ ((DL.fO env rest).bind fun ds=>.ok (d::ds)) p:=h1
   obtain⟨ds,vs,q1,q2,q3,q4,q5⟩:=Good.fO r h2.bind
   obtain⟨v,s1,s2⟩:=r.val i d e
   refine⟨d::ds,v::vs,q1,by simp[q2],by simp[q3],.cons s2 q4,fun j i' v' e1 e2=>?_⟩
   cases j with
   |zero=>simp at e1 e2;subst e1 e2;exact s1
   |succ j=>exact q5 j i' v' (by simpa using e1) (by simpa using e2)
  ·exact h1.elim
def jQ(nt:Nat)(ds:List D):DE:=replicate nt Sl.no++ds.map .val
theorem Ea{nt:Nat}{ds:List D}{i:Nat}{d:D}(h:(jQ nt ds)[i]?=some (.val d)):nt<=i/\ds[i-nt]?=some d:=by
 unfold jQ at h
 have hi:nt<=i:=by
  refine Nat.le_of_not_lt fun z=>?_
  rw[getElem?_append_left (by simpa using z),getElem?_replicate]at h
  split at h<;>cases h
 rw[getElem?_append_right (by simpa using hi),getElem?_map]at h
 refine⟨hi,?_⟩
 simp only [length_replicate]at h
 cases q:ds[i-nt]? with
 |none=>rw[q]at h;cases h
 |some d'=>rw[q]at h;cases h;rfl
theorem vV{nt:Nat}{ds:List D}{i:Nat}{xs:List D}(h:(jQ nt ds)[i]?=some (.own xs)):False:=by
 unfold jQ at h
 by_cases hi:i<nt
 ·rw[getElem?_append_left (by simpa using hi),getElem?_replicate]at h
  split at h<;>cases h
 ·rw[getElem?_append_right (by simp;omega),getElem?_map]at h
  cases q:ds[i-(replicate nt Sl.no).length]? with
  |none=>rw[q]at h;cases h
  |some d'=>rw[q]at h;cases h
theorem A0{nt:Nat}{ds:List D}{i:Nat}{w:Ct}(h:(jQ nt ds)[i]?=some (.deep w)):False:=by
 unfold jQ at h
 by_cases hi:i<nt
 ·rw[getElem?_append_left (by simpa using hi),getElem?_replicate]at h
  split at h<;>cases h
 ·rw[getElem?_append_right (by simp;omega),getElem?_map]at h
  cases q:ds[i-(replicate nt Sl.no).length]? with
  |none=>rw[q]at h;cases h
  |some d'=>rw[q]at h;cases h
theorem Eb{nt:Nat}{ds:List D}{i:Nat}{w:V}(h:(jQ nt ds)[i]?=some (.raw w)):False:=by
 unfold jQ at h
 by_cases hi:i<nt
 ·rw[getElem?_append_left (by simpa using hi),getElem?_replicate]at h
  split at h<;>cases h
 ·rw[getElem?_append_right (by simp;omega),getElem?_map]at h
  cases q:ds[i-(replicate nt Sl.no).length]? with
  |none=>rw[q]at h;cases h
  |some d'=>rw[q]at h;cases h
section
variable{X:Cx}{pins:List (Addr×Obj)}{σ:St}{H:Hp}{s:Shared}{h':Heap}
theorem yI{fp:List Addr}{t':Nat}(I:Inv X pins σ H s)(hf:∀b∈fp,nA X pins H b)(k:∀b u,b∉fp->s.heap.get? b=some u->h'.get? b=some u):Inv X pins σ H {s with heap:=h',toks:=t'}:=by
 have VE:∀b u,H b=some u->b∉fp:=fun b u e z=>by rw[(hf b z).1]at e;cases e
 refine I.step (g':=s.gens) (d':=s.drawn) (ch:=fp) (fun b hb=>⟨(hf b hb).2.2.2.1,(hf b hb).2.1,(hf b hb).2.2.2.2.1,(hf b hb).2.2.2.2.2⟩) (fun b u _ _ hc e _=>k b u hc e) (fun b u _ _ hc e _=>⟨u.slots,k b u hc e⟩)
  (fun b u _ e n=>n) (fun b u hc e=>⟨u,k b u hc e⟩) (fun b xs e=>e) (fun b u xs e=>e) (fun b ps e=>⟨#[],by rw[e];simp⟩) (fun m hm=>?_) (fun b u e=>?_) I.bare
 ·obtain⟨ob,es,ep,ho,r⟩:=hm
  exact⟨ob,es,ep,k _ ob (fun z=>(hf _ z).2.1 rfl) ho,r⟩
 ·refine(I.hok b u e).Cu (fun c v hc q=>k c v ?_ q) (fun c q=>q) fun c xs q=>q
  rcases hc with z|z
  ·rw[z];exact VE b u e
  ·exact VE c _ z
end
def R.ne {α:Type}:R α->R α
 |.ok a=>.ok a
 |_=>.bad
theorem R.IC {α:Type}(a:α):(R.ok a).ne=.ok a:=rfl
theorem R.ee {α β:Type}{r:R α}{k:α->R β}{y:β}(h:r.bind k=.ok y):∃a,r=.ok a/\k a=.ok y:=by
 cases r with
 |ok a=>exact⟨a,rfl,h⟩
 |err c=>cases h
 |bad=>cases h
theorem vW{α:Type}{E:Str->Hp->Prop}{H₀:Hp}{r:R α}{a:α}{p:α->Prop}(e:r=.ok a)(h:p a):Good E H₀ r p:=by rw[e];exact h
section
variable{X:Cx}{E:Str->Hp->Prop}{pos:Pos}{scope:Scope}{N:List Str}{nt:Nat}{caps:List Nat}
theorem Ec{K:PySem.W.Frag}{g:Gh}{e:DE}{σ:St}{H H':Hp}{a:Addr}{ds:List D}{ts:DE}(r:Rel K g e σ H [a])(he:e=ts++ds.map .val)(hl:ts.length=nt)(x:Ext (g.P [a]) (g.P [a]) H H')(s:aH g.H₀ H')(hn:∃o,H' a=some o):
  Rel K g (jQ nt ds) σ H' [a]:=by
 subst he
 refine⟨by rw[r.len];simp[jQ,hl],s,fun i d e=>?_,fun i xs e=>(vV e).elim,fun i j xs ys b e=>(vV e).elim,fun b hb=>?_,fun i w e=>(Eb e).elim,CS.none fun i w e=>A0 e⟩
 ·obtain⟨h1,h2⟩:=Ea e
  obtain⟨v,q1,q2⟩:=r.val i d (by rw[getElem?_append_right (by omega),hl,getElem?_map,h2];rfl)
  exact⟨v,q1,Is.ext x _ _ q2⟩
 ·have e:b=a:=by simpa using hb
  subst e
  exact⟨(r.new b hb).1,hn⟩
def ZD(X:Cx)(pins:List (Addr×Obj))(σ:St)(g:Gh)(os:List Addr)(H:Hp)(use:Option (Value->Sem Unit))(Qv:Value->Shared->Prop)(ys:List D):Prop:=
 ∀(Dd C:Addr)(acc:List V)(Hx:Hp)(s6:Shared),Inv X pins σ Hx s6->(∃m,s6.heap.Ns C m)->nA X pins Hx C->aH H Hx->H Dd=none->Hx Dd=some (.lst acc)->IsL X.K (g.P (Dd::os)) Hx ys acc->
  compPost (model X.prog X.w) X.A X.xe use Qv (.ref Dd) C (.ok .next) s6
theorem Mq{elt tg iter:Expr}{ifs:List Expr}{fi:DE->R (List D)}{b:D->DE->R DE}{ct:DE->R Bool}{fe:DE->R D}(S:jc X scope N nt caps)(A5:X.calm=true)(hi:PI X tg iter (XY X.K E fi))
  (hb1:∀ds d e,b d (jQ nt ds)=.ok e->∃ts,e=ts++ds.map .val/\ts.length=nt)
  (hg:∀s H fp C pl,PG (ud X scope N s H fp C pl) tg (tG X.K EN b))(ht:∀s H fp C pl,X1 (ud X scope N s H fp C pl) ifs (tT X.K EN ct))(he:∀s H fp C pl,PE (ud X scope N s H fp C pl) elt (tD X.K EN fe))
  (hs:∀x,foldedSetIterable iter X.env x=pure x){use:Option (Value->Sem Unit)}{Qv:Value->Shared->Prop}{pins:List (Addr×Obj)}{s:Shared}{σ:St}{H:Hp}{env:DE}{os:List Addr}{g:Gh}(I:Inv X pins σ H s)(r:Rel X.K g env σ H os)
  (m:Good E g.H₀ ((fi env).bind fun xs=>(fO env caps).bind fun ds=>(cy b ct fe (jQ nt ds) xs).ne.bind fit) (ZD X pins σ g os H use Qv)){ps:Pos}:
  wpAny (model X.prog X.w) X.A (comprehension (.ListComp elt [⟨tg,iter,ifs,0⟩] scope pos) scope X.env ps (newList []) false (eval iter X.env) use) Qv X.xe s:=by
 refine wpAny_comprehension_free (use:=use) rfl hs (qI (S.cells I)) S.kind S.names ?_
 refine cj (hi pins s σ H (fun J H1=>∃xs,aH H H1/\Yls X.K (g.P os) J H1 xs/\Good E g.H₀ ((fO env caps).bind fun ds=>(cy b ct fe (jQ nt ds) xs).ne.bind fit) _) I ⟨g,env,os,r,m.bind.mono fun xs _ m1 J H1 s1 yl=>⟨xs,s1,yl,m1⟩⟩) fun v s1 h1=>cj h1 fun itv s2 h2=>?_
 obtain⟨it,fp,tn,J,H2,rfl,I2,T,Ll,f2,xs,Mr,yl,m1⟩:=h2
 have r2:=r.same Mr
 obtain⟨ds,vs,m2,X2,hdl,hds,hvs⟩:=m1.bind.fO r2
 cases ec:cy b ct fe (jQ nt ds) xs with
 |bad=>rw[ec]at m2;exact m2.elim
 |err c=>rw[ec]at m2;exact m2.elim
 |ok ys=>
 rw[ec]at m2
 obtain⟨hz,q⟩:=(show Good E g.H₀ (fit ys) _ from m2).fit
 refine wpAny_newObj_type (wpAny_newFunctionEnv S.cell (by intro y hy;simp at hy) (fun h₁ CU hsb₁=>?_) S.kind)
 dsimp only at CU hsb₁⊢
 have Q8:H2 s2.heap.objs.size=none:=I2.hok.fresh (Nat.le_refl _)
 have I3:Inv X pins σ (upd H2 s2.heap.objs.size (.lst [])) {s2 with heap:=s2.heap.push {cls:=.type "list",dict:=none,data:=.seq ([]:List Value).toArray}}:=
  I2.laid (t':=s2.toks) (fun b u e=>Heap.get?_push_of_some _ e) (Nat.le_refl _) ⟨zero_le _,[],0,.nil,Heap.get?_push_size _ rfl⟩
 generalize VF:({s2 with heap:=s2.heap.push {cls:=.type "list",dict:=none,data:=.seq ([]:List Value).toArray}}:Shared)=s3 at I3
 have Q9:s3.heap=s2.heap.push {cls:=.type "list",dict:=none,data:=.seq ([]:List Value).toArray}:=by rw[<-VF]
 rw[<-Q9]at CU hsb₁⊢
 generalize ZE:s2.heap.objs.size=Dd at*
 have k3:∀b o,s3.heap.get? b=some o->h₁.get? b=some o:=fun b o e=>hsb₁.extBut b o (ne_of_lt (Heap.lt_size e)) (Heap.get?_push_of_some _ e)
 have ID:∀b∈fp,∃o,s2.heap.get? b=some o:=fun b hb=>let⟨o,e,_⟩:=T.obj 0 _ Ll b hb;⟨o,e⟩
 have Ra:∀b∈fp,∃o,s3.heap.get? b=some o:=fun b hb=>let⟨o,e⟩:=ID b hb;⟨o,by rw[Q9];exact Heap.get?_push_of_some _ e⟩
 have ZF:∀b∈fp,b≠Dd:=fun b hb=>let⟨o,e⟩:=ID b hb;by rw[<-ZE];exact ne_of_lt (Heap.lt_size e)
 have f3:∀b∈fp,nA X pins (upd H2 Dd (.lst [])) b:=fun b hb=>⟨by rw[ah (ZF b hb)];exact(f2 b hb).1,(f2 b hb).2⟩
 have sD:aH H2 (upd H2 Dd (.lst [])):=aI Q8 _
 have I4:=S.start (t':=s2.toks+([]:List (Str×Value)).length) I3 f3 (Nat.le_refl _) CU k3 Ra X2 (fun j i v e1 e2=>hvs j i v e1 e2) _ rfl
 generalize hX:ud X scope N s3 (upd H2 Dd (.lst [])) fp s3.heap.objs.size (X.pn++pins)=X' at I4
 have VG:=hg s3 (upd H2 Dd (.lst [])) fp s3.heap.objs.size (X.pn++pins)
 have Ho:=ht s3 (upd H2 Dd (.lst [])) fp s3.heap.objs.size (X.pn++pins)
 have VH:=he s3 (upd H2 Dd (.lst [])) fp s3.heap.objs.size (X.pn++pins)
 rw[hX]at VG Ho VH
 have eK:X'.K=X.K:=by rw[<-hX];rfl
 have eP:X'.prog=X.prog:=by rw[<-hX];rfl
 have eW:X'.w=X.w:=by rw[<-hX];rfl
 have eA:X'.A=X.A:=by rw[<-hX];rfl
 have eE:X'.xe=fun _ _=>False:=by rw[<-hX];rfl
 have eC:X'.calm=true:=by rw[<-hX];exact A5
 have eL:X'.env.locals=s3.heap.objs.size:=by rw[<-hX];rfl
 have eS:X'.s₀=s3:=by rw[<-hX];rfl
 have eX:X'.ex=fp:=by rw[<-hX];rfl
 have eF:X'.fs=Cp X.stack:=by rw[<-hX];rfl
 have eN:X'.pn=X.pn++pins:=by rw[<-hX];rfl
 have eH:X'.H₀=upd H2 Dd (.lst []):=by rw[<-hX];rfl
 have eV:X'.env=compEnvC scope (Aq X.env.cells scope.names []) s3.heap.objs.size X.env:=by rw[<-hX];rfl
 have Rb:∀{Hx:Hp},(∀b∈fp,Hx b=none)->∀b∈fp,nA X' [] Hx b:=fun{Hx} hn b hb=>by
  obtain⟨_,c1,c2,c3,c4,c5⟩:=f3 b hb
  have q:=I4.ok.UK b (by rw[eX];exact hb)
  refine⟨hn b hb,q.1,I4.ok.Cw b (by rw[eX];exact hb),.inl (by rw[eX];exact hb),q.2,fun p hp=>?_⟩
  rw[eN,append_nil]at hp
  exact c5 p hp
 let g':Gh:=⟨g.P os,H2⟩
 have exP:∀{Hx:Hp},aH H2 Hx->Ext (g.P os) (g'.P [Dd]) H2 Hx:=fun sx=>⟨fun a o p e=>⟨.inl p,fun z=>by
  have z':a=Dd:=by simpa using z
  rw[z',Q8]at e;cases e⟩,fun a o _ e=>sx a o e⟩
 have ZG:Rel X.K g' (jQ nt ds) (replicate nt none++vs.map some) (upd H2 Dd (.lst [])) [Dd]:=by
  refine⟨by simp[jQ,X2,hdl],sD,fun i d e=>?_,fun i xs e=>(vV e).elim,fun i j xs ys b e=>(vV e).elim,fun b hb=>?_,fun i w e=>(Eb e).elim,CS.none fun i w e=>A0 e⟩
  ·obtain⟨h1,h2⟩:=Ea e
   obtain⟨v,q1,q2⟩:=hds.get h2
   refine⟨v,?_,Is.ext (exP sD) _ _ q2⟩
   rw[getElem?_append_right (by simpa using h1),getElem?_map,length_replicate,q1]<;>rfl
  ·have e:b=Dd:=by simpa using hb
   subst e
   exact⟨Q8,_,ar⟩
 have loop:∀s4:Shared,Inv X' [] (replicate nt none++vs.map some) (upd H2 Dd (.lst [])) s4->tn 0 s4.heap->
   codeAny (model X.prog X.w) X.A (.compLoop (.ListComp elt [⟨tg,iter,ifs,0⟩] scope pos) 0 (.ref it) (.ref Dd) (compEnvC scope (Aq X.env.cells scope.names []) s3.heap.objs.size X.env))
    (compPost (model X.prog X.w) X.A X.xe use Qv (.ref Dd) s3.heap.objs.size) s4:=by
  intro s4 J4 IE
  refine uU (fun n s'=>∃i acc as rest Hx σ',n=xs.length-i/\i<=xs.length/\Inv X' [] σ' Hx s'/\tn i s'.heap/\(∀b∈fp,Hx b=none)/\Hx Dd=some (.lst acc)/\IsL X.K (g'.P [Dd]) Hx as acc/\
   cy b ct fe (jQ nt ds) (xs.drop i)=.ok rest/\as++rest=ys/\Rel X.K g' (jQ nt ds) σ' Hx [Dd]) ?_ xs.length
   ⟨0,[],[],ys,_,_,by simp,zero_le _,J4,IE,fun b hb=>(f3 b hb).1,ar,rfl,by rw[drop_zero];exact ec,rfl,ZG⟩
  rintro n s5 ⟨i,acc,as,rest,Hx,σ5,rfl,hi5,J5,LQ,Ln,VI,ZI,c5,e5,r5⟩
  obtain⟨y1,y2⟩:=yl i Hx (g'.P [Dd]) r5.ext (exP r5.ext)
  by_cases hlt:i<xs.length
  ·have hx:xs[i]?=some xs[i]:=getElem?_eq_getElem hlt
   obtain⟨go,y3⟩:=y1 _ hx
   rw[List.drop_eq_getElem_cons hlt]at c5
   obtain⟨e1,X3,c6⟩:=R.ee (show(b xs[i] (jQ nt ds)).bind _=.ok rest from c5)
   obtain⟨t,X4,c7⟩:=R.ee c6
   have TI:=T.item X' eP eW eK eC i [] s5 σ5 Hx (fun _ _=>False) J5 (Rb Ln) LQ go
   rw[eA]at TI
   refine cj TI fun r s6 h6=>?_
   obtain⟨u,rfl,h6⟩:=h6
   refine cj h6 fun _ s7 h7=>?_
   obtain⟨x,H7,J7,rx,hy,Rf,ZJ⟩:=h7
   obtain⟨Ug,hix⟩:=y3 x H7 hy
   have ix:Is X.K (g'.P [Dd]) H7 xs[i] x:=Is.ext ⟨fun a o p _=>p.elim (fun z=>z) fun z=>r5.fresh z,fun _ _ _ z=>z⟩ _ _ hix
   have ZK:=J7.pinned (Rb ZJ) (T.obj _ _ Rf)
   have TG:=VG _ s7 σ5 H7 x u (fun σ8 H8=>∃e8,b xs[i] (jQ nt ds)=.ok e8/\Rel X.K g' e8 σ8 H8 [Dd]/\H8=H7) ZK rx ⟨g',jQ nt ds,[Dd],xs[i],r5.same Ug,ix,vW X3 fun σ8 r8=>⟨e1,X3,r8,rfl⟩⟩
   rw[eP,eW,eA,eE,eV]at TG
   refine cj TG fun _ s8 h8=>?_
   obtain⟨σ8,H8,J8,e8,hb8,r8,hH8⟩:=h8
   rw[hH8]at J8 r8
   rw[X3]at hb8
   cases hb8
   have TT:=Ho _ s8 σ8 H7 (fun t' H9=>t'=t/\aH H7 H9) J8 ⟨g',e1,[Dd],r8,vW X4 fun H9 s9=>⟨rfl,s9⟩⟩
   rw[eP,eW,eA,eE,eV]at TT
   refine cj TT fun ok s9 h9=>?_
   obtain⟨H9,J9,rfl,Lq⟩:=h9
   obtain⟨ts,hts,Oe⟩:=hb1 ds _ _ X3
   have Ed:∀{σx:St}{Hy:Hp}{sx:Shared},Inv X' ([]++tN fp s7.heap) σx Hy sx->tn (i+1) sx.heap/\∀b∈fp,Hy b=none:=fun{σx Hy sx} Jx=>
    ⟨T.keep _ _ _ Rf fun b hb o e=>(Jx.pin (b,o) (mem_append_right _ (mem_append_right _ (iQ hb e)))).1,fun b hb=>by
     obtain⟨o,e,d⟩:=T.obj _ _ Rf b hb
     exact(Jx.pin (b,o) (mem_append_right _ (mem_append_right _ (iQ hb e)))).2.1⟩
   cases ok with
   |false=>
    rw[if_neg Bool.false_ne_true]
    have c8:cy b ct fe (jQ nt ds) (xs.drop (i+1))=.ok rest:=c7
    obtain⟨k1,k2⟩:=Ed J9
    exact⟨xs.length-(i+1),by omega,i+1,acc,as,rest,H9,σ8,rfl,hlt,J9.mJ,k1,k2,Lq _ _ (Ug _ _ VI),(ZI.same Ug).same Lq,c8,e5,
     Ec r8 hts Oe (.same Lq) (r8.ext.trans Lq) ⟨_,Lq _ _ (Ug _ _ VI)⟩⟩
   |true=>
    rw[if_pos rfl]
    obtain⟨d,he5,c8⟩:=R.ee (show(fe e1).bind _=.ok rest from c7)
    obtain⟨IF,hr5,c9⟩:=R.ee c8
    have c9':rest=d::IF:=by cases c9;rfl
    subst c9'
    have TE:=VH _ s9 σ8 H9 (fun v A6=>aH H9 A6/\Is X.K (g'.P [Dd]) A6 d v) J9 ⟨g',e1,[Dd],r8.same Lq,vW he5 fun v A6 VJ i10=>⟨VJ,i10⟩⟩
    rw[eP,eW,eA,eE,eV]at TE
    refine cj TE fun y VJ ZL=>?_
    obtain⟨v,A6,ZM,rv,Ms,iv⟩:=ZL
    have Rg:A6 Dd=some (.lst acc):=Ms _ _ (Lq _ _ (Ug _ _ VI))
    have VL:IsL X.K (g'.P [Dd]) A6 as acc:=((ZI.same Ug).same Lq).same Ms
    have TM:=fy (X:=X') _ VJ σ8 A6 (.ref Dd) [v] (.ref Dd) [y] (fun _ Uh=>Uh=upd A6 Dd (.lst (acc++[v]))) ZM rfl (.cons rv .nil) ⟨Dd,acc,v,rfl,rfl,Rg,by
     rw[VL.length]
     have:(as++d::IF).length<=sizeLine:=by rw[e5];exact hz
     rw[length_append,length_cons]at this
     omega,rfl⟩
    rw[eP,eW,eA,eE]at TM
    refine cj TM fun _ s11 h11=>?_
    obtain⟨v',Uh,VM,_,rfl⟩:=h11
    obtain⟨k1,k2⟩:=Ed VM
    have exD:Ext (g'.P [Dd]) (g'.P [Dd]) A6 (upd A6 Dd (.lst (acc++[v]))):=⟨fun _ _ p _=>p,fun a o p e=>by rw[ah (fun z=>p.2 (by simp[z]))];exact e⟩
    have ZN:aH H2 A6:=(r8.ext.trans Lq).trans Ms
    refine⟨xs.length-(i+1),by omega,i+1,acc++[v],as++[d],IF,_,σ8,rfl,hlt,VM.mJ,k1,k2,ar,IsL.ext exD _ _ (VL.app (.one iv)),hr5,by rw[List.append_assoc];exact e5,?_⟩
    exact Ec (r8.same (Lq.trans Ms)) hts Oe exD (fun a o e=>by rw[ah (au (show H2 a=some o from e) Q8)];exact ZN a o e) ⟨_,ar⟩
  ·have e:i=xs.length:=by omega
   subst e
   rw[drop_length]at c5
   have c5':rest=[]:=by cases c5;rfl
   subst c5'
   rw[append_nil]at e5
   subst e5
   have TD:=T.done X' eP eW eK eC xs.length [] s5 σ5 Hx (fun _ _=>False) J5 (Rb Ln) LQ (y2 rfl)
   rw[eA]at TD
   refine cj TD fun r s6 h6=>?_
   obtain⟨rfl,J6⟩:=h6
   obtain⟨m6,Rh,_⟩:=J6.loc
   rw[eL]at Rh
   have ZO:Un (Cp X.stack) fp (upd H2 Dd (.lst [])) Hx s3.heap s6.heap:=by
    have u:=J6.base
    rw[eF,eX,eH,eS]at u
    exact u
   have hxC:Hx s3.heap.objs.size=none:=by have:=J6.free;rw[eL]at this;exact this
   have Ri:qy X.prog X.w Hx s6.heap:=by
    have z:=J6.hok
    rw[eP,eW]at z
    exact z
   have ZP:s6.os=s3.os:=by have:=J6.os;rw[eS]at this;exact this
   have I6:Inv X pins σ Hx s6:=I3.N4 (s':=s6) ZP ZO Ri J6.bare fun b hb=>by
    obtain⟨_,c1,c2,c3,c4,c5⟩:=f3 b hb
    exact⟨c3,c1,c4,c5⟩
   have fC:nA X pins Hx s3.heap.objs.size:=⟨hxC,(I3.CC (Nat.le_refl _) (I3.hok.fresh (Nat.le_refl _))).2⟩
   refine q Dd s3.heap.objs.size acc Hx s6 I6 ⟨m6,Rh⟩ fC (Mr.trans r5.ext) (Mr.free Q8) VI (IsL.ext ⟨fun a o p _=>?_,fun _ _ _ z=>z⟩ _ _ ZI)
   have z:g.P os a:=p.1.elim (fun z=>z) fun z=>r2.fresh z
   exact⟨z.1,fun hm=>(mem_cons.mp hm).elim (fun z=>p.2 (by simp[z])) z.2⟩
 have IE:tn 0 h₁:=T.keep _ _ _ Ll fun b hb o e=>k3 b o (by rw[Q9];exact Heap.get?_push_of_some _ e)
 have eG:({heap:=h₁,gens:=s3.gens,drawn:=s3.drawn,toks:=s2.toks+([]:List (Str×Value)).length,os:=s3.os}:Shared)={heap:=h₁,gens:=s2.gens,drawn:=s2.drawn,toks:=s2.toks+([]:List (Str×Value)).length,os:=s2.os}:=by rw[<-VF]
 rw[eG]at I4
 exact codeAny_compStart_list (loop _ I4 IE) (T.self _ 0 _ _ _ IE (loop _ I4 IE))
variable{elt tg iter:Expr}{ifs:List Expr}{fi:DE->R (List D)}{b:D->DE->R DE}{ct:DE->R Bool}{fe:DE->R D}
theorem oG(S:jc X scope N nt caps)(A5:X.calm=true)(hi:PI X tg iter (XY X.K E fi))
  (hb1:∀ds d e,b d (jQ nt ds)=.ok e->∃ts,e=ts++ds.map .val/\ts.length=nt)
  (hg:∀s H fp C pl,PG (ud X scope N s H fp C pl) tg (tG X.K EN b))(ht:∀s H fp C pl,X1 (ud X scope N s H fp C pl) ifs (tT X.K EN ct))(he:∀s H fp C pl,PE (ud X scope N s H fp C pl) elt (tD X.K EN fe))
  (hs:∀x,foldedSetIterable iter X.env x=pure x:=by intro _;rfl):
  PE X (.ListComp elt [⟨tg,iter,ifs,0⟩] scope pos) (tF X.K E fun env=>(fi env).bind fun xs=>(fO env caps).bind fun ds=>(cy b ct fe (jQ nt ds) xs).ne.bind fit):=by
 intro pins s σ H Q I h
 obtain⟨g,env,os,r,m⟩:=h
 rw[eval_ListComp]
 refine Mq S A5 hi hb1 hg ht he hs I r (m.mono fun ys _ q Dd C acc Hx s6 I6 hn fC sm hD hx ia=>?_)
 obtain⟨m6,Rh⟩:=hn
 refine⟨m6,Rh,fun h7 ZQ=>⟨.ref Dd,Hx,yI (fp:=[C]) (t':=s6.toks) I6 (fun b hb=>by
  have z:b=C:=by simpa using hb
  rw[z];exact fC) (fun b u hb e=>(ZQ.2 b (fun z=>hb (by simp[z]))).trans e),rfl,q Dd acc Hx sm hD hx ia⟩⟩
end
section
variable{X:Cx}{pins:List (Addr×Obj)}{σ:St}{H:Hp}{s:Shared}{h':Heap}
theorem Ef{fp:List Addr}{t:Addr}{o:HO}{t':Nat}(I:Inv X pins σ H s)(hf:∀b∈fp,nA X pins H b)(k:∀b u,b∉fp->s.heap.get? b=some u->h'.get? b=some u)(hex:∀b∈fp,∀u,s.heap.get? b=some u->∃u',h'.get? b=some u')(ht:s.heap.objs.size<=t)
  (new:cT X.prog X.w (upd H t o) h' t o):Inv X pins σ (upd H t o) {s with heap:=h',toks:=t'}:=by
 have hn:H t=none:=I.hok.fresh ht
 have VE:∀b u,H b=some u->b∉fp:=fun b u e z=>by rw[(hf b z).1]at e;cases e
 refine I.step (g':=s.gens) (d':=s.drawn) (ch:=fp) (fun b hb=>⟨(hf b hb).2.2.2.1,(hf b hb).2.1,(hf b hb).2.2.2.2.1,(hf b hb).2.2.2.2.2⟩) (fun b u _ _ hc e _=>k b u hc e) (fun b u _ _ hc e _=>⟨u.slots,k b u hc e⟩)
  (fun b u _ e n=>by rw[ah (ne_of_lt (lt_of_lt_of_le (Heap.lt_size e) ht))];exact n) (fun b u hc e=>⟨u,k b u hc e⟩)
  (fun b xs e=>by rw[ah (au e hn)];exact e) (fun b u xs e=>by rw[ah (au e hn)];exact e) (fun b ps e=>⟨#[],by rw[ah (au e hn),e];simp⟩)
  (fun m hm=>?_) (fun b u e=>?_) I.bare
 ·obtain⟨ob,es,ep,ho,r⟩:=hm
  exact⟨ob,es,ep,k _ ob (fun z=>(hf _ z).2.1 rfl) ho,r⟩
 ·by_cases hb:b=t
  ·subst hb;rw[ar]at e;cases e;exact new
  ·rw[ah hb]at e
   refine(I.hok b u e).Cu (fun c v hc q=>k c v ?_ q) (fun c q=>by rw[ah (au q hn)];exact q) fun c xs q=>by rw[ah (au q hn)];exact q
   rcases hc with z|z
   ·rw[z];exact VE b u e
   ·exact VE c _ z
end
def Ite(K:PySem.W.Frag)(l:Addr):It:=
 ⟨fun i H=>∃xs x,ck K H l xs/\xs[i]?=some x,fun i H x H'=>∃t y,H t=none/\H'=upd H t (.tup [.int (i:Nat),y])/\x=.ref t/\∀xs,ck K H l xs->xs[i]?=some y,fun i H=>∃xs,ck K H l xs/\xs.length<=i⟩
theorem Gx{P:Program}{w:World}{K:PySem.W.Frag}{elts:List Expr}{kk:Nat}{pp:Pos}(l e it:Addr)(hei:e≠it):
  Turn P w K (.Tuple elts kk pp) (Ite K l) [e,it] e (fun i h=>(∃old,IsEnum h e it (i:Nat) old)/\h.IsListIter it l i) where
 mem:=by simp
 obj:=fun i h st b hb=>by
  obtain⟨⟨old,he⟩,o,e2,c,d⟩:=st
  rcases mem_cons.mp hb with rfl|hb
  ·exact⟨_,he,fun v z=>by cases z⟩
  ·have z:b=it:=by simpa using hb
   subst z
   exact⟨o,e2,fun v z=>by rw[d]at z;cases z⟩
 keep:=fun i h h' st k=>by
  obtain⟨⟨old,he⟩,hit⟩:=st
  exact⟨⟨old,k e (by simp) _ he⟩,hit.at fun o q=>k it (by simp) o q⟩
 item:=by
  intro X hP hw hK hc i pins s σ H E I hf st hg
  subst hP hw hK
  obtain⟨xs,x,hq,hx⟩:=hg
  obtain⟨its,rv,p,hz⟩:=I.list hq
  obtain⟨u,hu,ru⟩:=rv.get hx
  obtain⟨⟨old,he⟩,hit⟩:=st
  refine wpAny_pyNext_enum_item he hit p.isList (x:=u) (by simpa using hu) hei fun h' ho VN hT hsz hk=>?_
  refine⟨_,rfl,wpAny_letOwnedTupleGo_enum ho fun Mt VO wO=>?_⟩
  have hlt:e<s.heap.objs.size:=Heap.lt_size he
  have ZR:it<s.heap.objs.size:=by obtain⟨_,z,_⟩:=hit;exact Heap.lt_size z
  have kk:∀b o,b∉[e,it]->s.heap.get? b=some o->Mt.get? b=some o:=fun b o hb q=>by
   have h1:b≠e:=fun z=>hb (by simp[z])
   have h2:b≠it:=fun z=>hb (by simp[z])
   exact(wO.2 b h1).trans (hk b o h1 h2 q)
  have Rj:Mt.get? s.heap.objs.size=some {cls:=.type "tuple",data:=.seq #[.int i s.toks,u]}:=(wO.2 _ (ne_of_gt hlt)).trans hT
  have hn:H s.heap.objs.size=none:=I.hok.fresh (Nat.le_refl _)
  refine⟨.ref s.heap.objs.size,upd H s.heap.objs.size (.tup [.int (i:Nat),x]),?_,rfl,⟨_,x,hn,rfl,rfl,fun ys hy=>by rw[I.mH hy hq];exact hx⟩,⟨⟨u,by simpa using VO⟩,VN.at fun o q=>(wO.2 it hei.symm).trans q⟩,fun b hb=>?_⟩
  ·refine Ef (s:=s) I hf kk (fun b hb u hu=>?_) (Nat.le_refl _) ⟨(by show 2<=sizeLine;decide),[.int i s.toks,u],.cons ⟨_,rfl⟩ (.cons ru .nil),⟨_,Rj,rfl,_,rfl⟩⟩
   rcases mem_cons.mp hb with rfl|hb
   ·exact⟨_,VO⟩
   ·have z:b=it:=by simpa using hb
    subst z
    obtain⟨o,q,_⟩:=VN
    exact⟨o,(wO.2 b hei.symm).trans q⟩
  ·rw[ah]
   ·exact(hf b hb).1
   ·rcases mem_cons.mp hb with rfl|hb
    ·exact ne_of_lt hlt
    ·have z:b=it:=by simpa using hb
     subst z
     exact ne_of_lt ZR
 done:=by
  intro X hP hw hK hc i pins s σ H E I hf st hg
  subst hP hw hK
  obtain⟨xs,hq,hx⟩:=hg
  obtain⟨its,rv,p,hz⟩:=I.list hq
  obtain⟨⟨old,he⟩,hit⟩:=st
  have hl:=rv.length
  refine wpAny_pyNext_enum_end (I.ok.hd hc) he hit p.isList (by simp;omega) fun h' eb=>⟨rfl,?_⟩
  exact yI (fp:=[e,it]) (t':=s.toks) I hf fun b o hb q=>eb b o (fun z=>hb (by simp[z])) q
 self:=fun _ _ _ _ _ st h=>by
  obtain⟨⟨old,he⟩,_⟩:=st
  exact wpAny_pyIter_enum he h
def Itz(K:PySem.W.Frag)(l1 l2:Addr):It:=
 ⟨fun i H=>∃xs ys x y,ck K H l1 xs/\ck K H l2 ys/\xs[i]?=some x/\ys[i]?=some y,fun i H x H'=>∃t y z,H t=none/\H'=upd H t (.tup [y,z])/\x=.ref t/\(∀xs,ck K H l1 xs->xs[i]?=some y)/\∀xs,ck K H l2 xs->xs[i]?=some z,
  fun i H=>∃xs ys,ck K H l1 xs/\ck K H l2 ys/\(xs.length<=i\/ys.length<=i)⟩
theorem IG{P:Program}{w:World}{K:PySem.W.Frag}{elts:List Expr}{kk:Nat}{pp:Pos}(z TI TO i1 i2 l1 l2:Addr)(Dz:ZipApart z TI TO i1 i2 l1 l2):
  Turn P w K (.Tuple elts kk pp) (Itz K l1 l2) [z,TI,TO,i1,i2] z (fun i h=>IsZip h z TI TO .none/\IsPair h TI (.ref i1) (.ref i2)/\(∃a b,IsPair h TO a b)/\h.IsListIter i1 l1 i/\h.IsListIter i2 l2 i) where
 mem:=by simp
 obj:=fun i h st b hb=>by
  obtain⟨hz,hTI,⟨a,c,hTO⟩,⟨o1,e1,c1,d1⟩,⟨o2,e2,c2,d2⟩⟩:=st
  simp only [mem_cons,not_mem_nil,or_false]at hb
  rcases hb with rfl|rfl|rfl|rfl|rfl
  ·exact⟨_,hz,fun v q=>by cases q⟩
  ·exact⟨_,hTI,fun v q=>by cases q⟩
  ·exact⟨_,hTO,fun v q=>by cases q⟩
  ·exact⟨o1,e1,fun v q=>by rw[d1]at q;cases q⟩
  ·exact⟨o2,e2,fun v q=>by rw[d2]at q;cases q⟩
 keep:=fun i h h' st k=>by
  obtain⟨hz,hTI,⟨a,c,hTO⟩,h1,h2⟩:=st
  exact⟨k z (by simp) _ hz,k TI (by simp) _ hTI,⟨a,c,k TO (by simp) _ hTO⟩,h1.at fun o q=>k i1 (by simp) o q,h2.at fun o q=>k i2 (by simp) o q⟩
 item:=by
  intro X hP hw hK hc i pins s σ H E I hf st hg
  subst hP hw hK
  obtain⟨xs,ys,x,y,hq1,hq2,hx,hy⟩:=hg
  obtain⟨its,rv,p,hzz⟩:=I.list hq1
  obtain⟨its2,X5,p2,ZS⟩:=I.list hq2
  obtain⟨u,hu,ru⟩:=rv.get hx
  obtain⟨u2,hu2,Rk⟩:=X5.get hy
  obtain⟨hz,hTI,⟨a,c,hTO⟩,h1,h2⟩:=st
  refine wpAny_pyNext_zip_item Dz hz hTI hTO h1 h2 p.isList p2.isList (x:=u) (y:=u2) (by simpa using hu) (by simpa using hu2) fun h' a1 a2 a3 a4 a5 a6 hk=>?_
  refine⟨_,rfl,wpAny_letOwnedTupleGo_zip a1 fun Mt VP wO=>?_⟩
  have lz:z<s.heap.objs.size:=Heap.lt_size hz
  have lTI:TI<s.heap.objs.size:=Heap.lt_size hTI
  have lTO:TO<s.heap.objs.size:=Heap.lt_size hTO
  have l1':i1<s.heap.objs.size:=by obtain⟨_,q,_⟩:=h1;exact Heap.lt_size q
  have l2':i2<s.heap.objs.size:=by obtain⟨_,q,_⟩:=h2;exact Heap.lt_size q
  have kk:∀b o,b∉[z,TI,TO,i1,i2]->s.heap.get? b=some o->Mt.get? b=some o:=fun b o hb q=>by
   have e1:b≠z:=fun q=>hb (by simp[q])
   have e2:b≠TO:=fun q=>hb (by simp[q])
   have e3:b≠i1:=fun q=>hb (by simp[q])
   have e4:b≠i2:=fun q=>hb (by simp[q])
   exact(wO.2 b e1).trans (hk b o e1 e2 e3 e4 q)
  have Rj:Mt.get? s.heap.objs.size=some {cls:=.type "tuple",data:=.seq #[u,u2]}:=(wO.2 _ (ne_of_gt lz)).trans a5
  have hn:H s.heap.objs.size=none:=I.hok.fresh (Nat.le_refl _)
  have tTI:IsPair Mt TI (.ref i1) (.ref i2):=(wO.2 _ Dz.TIz).trans (hk _ _ Dz.TIz Dz.TITO Dz.TIi1 Dz.TIi2 hTI)
  have tTO:IsPair Mt TO u u2:=(wO.2 _ Dz.TOz).trans a2
  have t1:Mt.IsListIter i1 l1 (i+1):=a3.at fun o q=>(wO.2 i1 Dz.i1z).trans q
  have t2:Mt.IsListIter i2 l2 (i+1):=a4.at fun o q=>(wO.2 i2 Dz.i2z).trans q
  refine⟨.ref s.heap.objs.size,upd H s.heap.objs.size (.tup [x,y]),?_,rfl,⟨_,x,y,hn,rfl,rfl,(fun zs hz=>by rw[I.mH hz hq1];exact hx),fun zs hz=>by rw[I.mH hz hq2];exact hy⟩,
   ⟨VP,tTI,⟨_,_,tTO⟩,t1,t2⟩,fun b hb=>?_⟩
  ·refine Ef (s:=s) I hf kk (fun b hb w hw=>?_) (Nat.le_refl _) ⟨(by show 2<=sizeLine;decide),[u,u2],.cons ru (.cons Rk .nil),⟨_,Rj,rfl,_,rfl⟩⟩
   simp only [mem_cons,not_mem_nil,or_false]at hb
   rcases hb with rfl|rfl|rfl|rfl|rfl
   ·exact⟨_,VP⟩
   ·exact⟨_,tTI⟩
   ·exact⟨_,tTO⟩
   ·obtain⟨o,q,_⟩:=t1;exact⟨o,q⟩
   ·obtain⟨o,q,_⟩:=t2;exact⟨o,q⟩
  ·rw[ah]
   ·exact(hf b hb).1
   ·simp only [mem_cons,not_mem_nil,or_false]at hb
    rcases hb with rfl|rfl|rfl|rfl|rfl<;>exact ne_of_lt (by assumption)
 done:=by
  intro X hP hw hK hc i pins s σ H E I hf st hg
  subst hP hw hK
  obtain⟨xs,ys,hq1,hq2,hx⟩:=hg
  obtain⟨its,rv,p,hzz⟩:=I.list hq1
  obtain⟨its2,X5,p2,ZS⟩:=I.list hq2
  obtain⟨hz,hTI,⟨a,c,hTO⟩,h1,h2⟩:=st
  have hl:=rv.length
  have hl2:=X5.length
  refine wpAny_pyNext_zip_end (I.ok.hd hc) Dz hz hTI hTO h1 h2 p.isList p2.isList (hx.elim (fun q=>.inl (by simp;omega)) fun q=>.inr (by simp;omega)) fun h' eb=>⟨rfl,?_⟩
  exact yI (fp:=[z,TI,TO,i1,i2]) (t':=s.toks) I hf fun b o hb q=>eb b o (fun z=>hb (by simp[z])) (fun z=>hb (by simp[z])) (fun z=>hb (by simp[z])) (fun z=>hb (by simp[z])) q
 self:=fun _ _ _ _ _ st h=>wpAny_pyIter_zip st.1 h
def Itv(K:PySem.W.Frag)(l:Addr)(n:Nat):It:=
 ⟨fun i H=>i<n/\∃xs x,ck K H l xs/\xs.length=n/\xs[n-1-i]?=some x,fun i H x H'=>H'=H/\∀xs,ck K H l xs->xs[n-1-i]?=some x,fun i H=>i=n/\∃xs,ck K H l xs⟩
theorem II{P:Program}{w:World}{K:PySem.W.Frag}{tg:Expr}(l it:Addr)(n:Nat):Turn P w K tg (Itv K l n) [it] it (fun i h=>h.IsRevIter it l ((n:Int)-1-(i:Nat))) where
 mem:=by simp
 obj:=fun i h st b hb=>by
  have z:b=it:=by simpa using hb
  subst z
  obtain⟨o,e,c,d⟩:=st
  exact⟨o,e,fun v z=>by rw[d]at z;cases z⟩
 keep:=fun i h h' st k=>st.at fun o e=>k it (by simp) o e
 item:=by
  intro X hP hw hK hc i pins s σ H E I hf st hg
  subst hP hw hK
  obtain⟨hin,xs,x,hq,hl,hx⟩:=hg
  obtain⟨its,rv,p,hz⟩:=I.list hq
  obtain⟨u,hu,ru⟩:=rv.get hx
  have e1:(n:Int)-1-(i:Nat)=((n-1-i:Nat):Int):=by omega
  rw[e1]at st
  refine wpAny_pyNext_rev_item st p.isList (x:=u) (by simpa using hu) fun h' LP sb=>?_
  have I1:Inv X pins σ H {s with heap:=h'}:=yI (fp:=[it]) (t':=s.toks) I hf fun b o hb q=>(sb.2 b (fun z=>hb (by simp[z]))).trans q
  obtain⟨o,e,c,d⟩:=id LP
  have e2:((n-1-i:Nat):Int)-1=(n:Int)-1-((i+1:Nat):Int):=by omega
  rw[e2]at LP
  exact⟨u,rfl,HK (s:={s with heap:=h'}) e c d (by decide) ⟨x,H,I1,ru,⟨rfl,fun ys hy=>by rw[I.mH hy hq];exact hx⟩,LP,fun b hb=>(hf b hb).1⟩⟩
 done:=by
  intro X hP hw hK hc i pins s σ H E I hf st hg
  subst hP hw hK
  obtain⟨rfl,xs,hq⟩:=hg
  have e1:(i:Int)-1-(i:Nat)= -1:=by omega
  rw[e1]at st
  exact wpAny_pyNext_rev_end (I.ok.hd hc) st fun h' eb=>⟨rfl,yI (fp:=[it]) (t':=s.toks) I hf fun b o hb q=>eb b o (fun z=>hb (by simp[z])) q⟩
 self:=fun _ _ _ _ _ st h=>wpAny_pyIter_revIter st h
section
variable{X:Cx}{E:Str->Hp->Prop}{pos:Pos}
def eY(xs:List D):List D:=xs.zipIdx.map fun p=>.tup [.int (p.2:Nat),p.1]
theorem ue{xs:List D}{i:Nat}{d:D}(h:(eY xs)[i]?=some d):∃x,xs[i]?=some x/\d=.tup [.int (i:Nat),x]:=by
 unfold eY at h
 rw[getElem?_map,List.getElem?_zipIdx]at h
 cases q:xs[i]? with
 |none=>rw[q]at h;cases h
 |some x=>
  rw[q]at h
  refine⟨x,rfl,?_⟩
  have h':some (D.tup [.int ((0+i:Nat):Int),x])=some d:=h
  rw[Nat.zero_add]at h'
  exact(Option.some.inj h').symm
theorem iE{a:Expr}{elts:List Expr}{kk:Nat}{pp p:Pos}{f:DE->R D}(hm:X.mg "enumerate"=none)(ha:PE X a (tD X.K E f))(hg:Gl X "enumerate":=by rfl)(hs:starEach [a] X.env=[(false,eval a X.env)]:=by rfl):
  PI X (.Tuple elts kk pp) (.Call (.Name "enumerate" p) [a] [] pos) (tI X.K E fun env=>(f env).bind fun d=>(t8 d).bind fun xs=>.ok (eY xs)):=by
 intro pins s σ H Rr I h
 obtain⟨g,env,os,r,m⟩:=h
 have ZT:PA X [a] (Hk X.K E fun env=>(f env).bind fun x=>(R.ok []).bind fun xs=>.ok (x::xs)):=aB ha bG hs
 refine Call_ (gD I hg hm boot_enumerate (PyProof.Rows.callWith_type1 (cj (ZT pos pins s σ H (fun vs H1=>aH H H1/\∃d,f env=.ok d/\∃v,vs=[v]/\Is X.K (g.P os) H1 d v/\Good E g.H₀ ((t8 d).bind fun xs=>.ok (eY xs)) (fun xs=>∀J H1,aH H H1->Yl X.K (g.P os) J H1 xs->Rr J H1)) I
  ⟨g,env,os,r,?_⟩) fun us s1 ⟨vs,H1,I1,r1,q1⟩=>?_) hs rfl))
 ·exact Good.D6 m.bind (fun d e q=>by
   show Good E g.H₀ (R.ok [d]) _
   exact fun vs H' s' i'=>by
    obtain⟨v,rfl,iv⟩:=IsL.yd i'
    exact⟨s',d,e,v,rfl,iv,q⟩)
 ·obtain⟨VQ,d,_,v,rfl,iv,q⟩:=q1
  cases d with
  |lst xs=>
   obtain⟨l,ws,rfl,h1,h2⟩:=iv
   obtain⟨u,rfl,ru⟩:=vals1 r1
   cases ru
   obtain⟨its,rv,pl,hz⟩:=I1.list h1.sq
   refine call_enumerate_list pl.isList fun h' he hit hsz hk=>?_
   refine wpAny_pyIter_enum he ?_
   have I2:Inv X pins σ H1 {s1 with heap:=h'}:=I1.kept (t':=s1.toks) hk
   have f1:∀b∈[s1.heap.objs.size+1,s1.heap.objs.size],nA X pins H1 b:=fun b hb=>by
    have Gy:s1.heap.objs.size<=b:=by
     simp only [mem_cons,not_mem_nil,or_false]at hb
     rcases hb with rfl|rfl<;>omega
    exact I1.CC Gy (I1.hok.fresh Gy)
   refine⟨s1.heap.objs.size+1,[s1.heap.objs.size+1,s1.heap.objs.size],_,Ite X.K l,H1,rfl,I2,Gx l _ _ (ne_of_gt (lt_succ_self _)),⟨⟨_,he⟩,hit⟩,f1,?_⟩
   refine(show∀J H1,aH H H1->Yl X.K (g.P os) J H1 (eY xs)->Rr J H1 from q) _ H1 VQ fun i H' P' ex=>⟨fun d hd=>?_,fun hi=>?_⟩
   ·obtain⟨x,hx,rfl⟩:=ue hd
    obtain⟨y,hy,iy⟩:=(IsL.ext ex _ _ h2).get hx
    refine⟨⟨ws,y,(h1.ext ex).sq,hy⟩,fun z H2 VR=>?_⟩
    obtain⟨t,y',ht,rfl,rfl,hall⟩:=VR
    have e2:=hall ws (h1.ext ex).sq
    rw[hy]at e2
    cases e2
    refine⟨aI ht _,t,_,rfl,.inl ⟨.inr ht,.inl ar⟩,IsL.cons rfl (IsL.one (Is.ext ⟨fun _ _ p _=>.inl p,fun a o _ e=>aI ht _ a o e⟩ _ _ iy))⟩
   ·refine⟨ws,(h1.ext ex).sq,?_⟩
    rw[IsL.length h2]
    refine le_of_eq ?_
    have:(eY xs).length=xs.length:=by simp[eY]
    omega
  |non=>exact q.elim
  |bl _=>exact q.elim
  |int _=>exact q.elim
  |str _=>exact q.elim
  |exc _=>exact q.elim
  |fn _=>exact q.elim
  |tup _=>exact q.elim
def ye(xs ys:List D):List D:=(xs.zip ys).map fun p=>.tup [p.1,p.2]
theorem IJ{xs ys:List D}{i:Nat}{d:D}(h:(ye xs ys)[i]?=some d):∃x y,xs[i]?=some x/\ys[i]?=some y/\d=.tup [x,y]:=by
 unfold ye at h
 rw[getElem?_map]at h
 cases q:(xs.zip ys)[i]? with
 |none=>rw[q]at h;cases h
 |some p=>
  rw[q]at h
  rw[List.getElem?_zip_eq_some]at q
  exact⟨p.1,p.2,q.1,q.2,(Option.some.inj h).symm⟩
def zip2:List D->R (List D)
 |[.lst xs,.lst ys]=>.ok (ye xs ys)
 |_=>.bad
theorem Rl:bootBuiltins "zip"=some (.type "zip"):=by decide +kernel
theorem uV:bootBuiltins "reversed"=some (.type "reversed"):=by decide +kernel
theorem iZ{a b:Expr}{elts:List Expr}{kk:Nat}{pp p:Pos}{f:DE->R (List D)}(hm:X.mg "zip"=none)(ha:PA X [a,b] (Hk X.K E f))(hg:Gl X "zip":=by rfl)(hs:starEach [a,b] X.env=[(false,eval a X.env),(false,eval b X.env)]:=by rfl)(hs2:starEach [b] X.env=[(false,eval b X.env)]:=by rfl):
  PI X (.Tuple elts kk pp) (.Call (.Name "zip" p) [a,b] [] pos) (tI X.K E fun env=>(f env).bind zip2):=by
 intro pins s σ H Rr I h
 obtain⟨g,env,os,r,m⟩:=h
 refine Call_ (gD I hg hm Rl (PyProof.Rows.callWith_type1 (cj (ha pos pins s σ H (fun vs H1=>aH H H1/\∃ds,IsL X.K (g.P os) H1 ds vs/\Good E g.H₀ (zip2 ds) (fun xs=>∀J H1,aH H H1->Yl X.K (g.P os) J H1 xs->Rr J H1)) I
  ⟨g,env,os,r,m.bind.mono fun ds _ q vs H' s' i'=>⟨s',ds,i',q⟩⟩) fun us s1 ⟨vs,H1,I1,r1,q1⟩=>?_) (by rw[hs,hs2]) (by rw[hs2];rfl)))
 obtain⟨VQ,ds,iv,q⟩:=q1
 unfold zip2 at q
 split at q
 ·rename_i xs ys
  obtain⟨v,v2,rfl,Hq,Hr⟩:=IsL.Mn iv
  obtain⟨l1,ZU,rfl,h1,g1⟩:=Hq
  obtain⟨l2,X6,rfl,h2,g2⟩:=Hr
  obtain⟨u,u2,rfl,ru,Rk⟩:=vals2 r1
  cases ru
  cases Rk
  obtain⟨its,rv,pl,hz⟩:=I1.list h1.sq
  obtain⟨its2,X5,pl2,hz2⟩:=I1.list h2.sq
  refine call_zip_2 pl.isList pl2.isList fun h' z1 z2 z3 z4 z5 hsz hk=>?_
  refine wpAny_pyIter_zip z1 ?_
  have I2:Inv X pins σ H1 {s1 with heap:=h'}:=I1.kept (t':=s1.toks) hk
  have lt1:l1<s1.heap.objs.size:=by obtain⟨o,_,e,_⟩:=pl;exact Heap.lt_size e
  have lt2:l2<s1.heap.objs.size:=by obtain⟨o,_,e,_⟩:=pl2;exact Heap.lt_size e
  have f1:∀b∈[s1.heap.objs.size+4,s1.heap.objs.size+2,s1.heap.objs.size+3,s1.heap.objs.size,s1.heap.objs.size+1],nA X pins H1 b:=fun b hb=>by
   have Gy:s1.heap.objs.size<=b:=by
    simp only [mem_cons,not_mem_nil,or_false]at hb
    rcases hb with rfl|rfl|rfl|rfl|rfl
    ·exact le_add_right _ _
    ·exact le_add_right _ _
    ·exact le_add_right _ _
    ·exact Nat.le_refl _
    ·exact le_add_right _ _
   exact I1.CC Gy (I1.hok.fresh Gy)
  refine⟨_,_,_,Itz X.K l1 l2,H1,rfl,I2,IG (s1.heap.objs.size+4) (s1.heap.objs.size+2) (s1.heap.objs.size+3) s1.heap.objs.size (s1.heap.objs.size+1) l1 l2 (zipApart_new lt1 lt2),⟨z1,z2,⟨_,_,z3⟩,z4,z5⟩,f1,?_⟩
  refine(show∀J H1,aH H H1->Yl X.K (g.P os) J H1 (ye xs ys)->Rr J H1 from q) _ H1 VQ fun i H' P' ex=>⟨fun d hd=>?_,fun hi=>?_⟩
  ·obtain⟨x,y,hx,hy,rfl⟩:=IJ hd
   obtain⟨x',Eg,ix⟩:=(IsL.ext ex _ _ g1).get hx
   obtain⟨y',Ua,iy⟩:=(IsL.ext ex _ _ g2).get hy
   refine⟨⟨ZU,X6,x',y',(h1.ext ex).sq,(h2.ext ex).sq,Eg,Ua⟩,fun z H2 VR=>?_⟩
   obtain⟨t,a1,a2,ht,rfl,rfl,hall,VS⟩:=VR
   have e1:=hall ZU (h1.ext ex).sq
   have e2:=VS X6 (h2.ext ex).sq
   rw[Eg]at e1
   rw[Ua]at e2
   cases e1
   cases e2
   have ext2:Ext P' (fun a=>P' a\/H' a=none) H' (upd H' t (.tup [x',y'])):=⟨fun _ _ p _=>.inl p,fun a o _ e=>aI ht _ a o e⟩
   exact⟨aI ht _,t,_,rfl,.inl ⟨.inr ht,.inl ar⟩,IsL.cons (Is.ext ext2 _ _ ix) (IsL.one (Is.ext ext2 _ _ iy))⟩
  ·refine⟨ZU,X6,(h1.ext ex).sq,(h2.ext ex).sq,?_⟩
   rw[IsL.length g1,IsL.length g2]
   have:(ye xs ys).length=min xs.length ys.length:=by simp[ye]
   omega
 ·exact q.elim
theorem iV{a tg:Expr}{p:Pos}{f:DE->R D}(hm:X.mg "reversed"=none)(ha:PE X a (tD X.K E f))(hg:Gl X "reversed":=by rfl)(hs:starEach [a] X.env=[(false,eval a X.env)]:=by rfl):
  PI X tg (.Call (.Name "reversed" p) [a] [] pos) (tI X.K E fun env=>(f env).bind fun d=>(t8 d).bind fun xs=>.ok xs.reverse):=by
 intro pins s σ H Rr I h
 obtain⟨g,env,os,r,m⟩:=h
 have ZT:PA X [a] (Hk X.K E fun env=>(f env).bind fun x=>(R.ok []).bind fun xs=>.ok (x::xs)):=aB ha bG hs
 refine Call_ (gD I hg hm uV (PyProof.Rows.callWith_type1 (cj (ZT pos pins s σ H (fun vs H1=>aH H H1/\∃d,f env=.ok d/\∃v,vs=[v]/\Is X.K (g.P os) H1 d v/\Good E g.H₀ ((t8 d).bind fun xs=>.ok xs.reverse) (fun xs=>∀J H1,aH H H1->Yl X.K (g.P os) J H1 xs->Rr J H1)) I
  ⟨g,env,os,r,?_⟩) fun us s1 ⟨vs,H1,I1,r1,q1⟩=>?_) hs rfl))
 ·exact Good.D6 m.bind (fun d e q=>by
   show Good E g.H₀ (R.ok [d]) _
   exact fun vs H' s' i'=>by
    obtain⟨v,rfl,iv⟩:=IsL.yd i'
    exact⟨s',d,e,v,rfl,iv,q⟩)
 ·obtain⟨VQ,d,_,v,rfl,iv,q⟩:=q1
  cases d with
  |lst xs=>
   obtain⟨l,ws,rfl,h1,h2⟩:=iv
   obtain⟨u,rfl,ru⟩:=vals1 r1
   cases ru
   obtain⟨its,rv,pl,hz⟩:=I1.list h1.sq
   have hl:=rv.length
   have hl2:ws.length=xs.length:=IsL.length h2
   refine call_reversed_list pl.isList ?_
   have e0:((its.toArray.size:Nat):Int)-1=(xs.length:Int)-1:=by rw[size_toArray];omega
   rw[e0]
   have hit:({s1 with heap:=s1.heap.push (PySem.revObj l ((xs.length:Int)-1))}:Shared).heap.IsRevIter s1.heap.objs.size l ((xs.length:Int)-1):=⟨_,Heap.get?_push_size _ rfl,rfl,rfl⟩
   refine wpAny_pyIter_revIter hit ?_
   have I2:Inv X pins σ H1 {s1 with heap:=s1.heap.push (PySem.revObj l ((xs.length:Int)-1))}:=I1.kept (t':=s1.toks) fun b o e=>Heap.get?_push_of_some _ e
   have f1:∀b∈[s1.heap.objs.size],nA X pins H1 b:=fun b hb=>by
    have z:b=s1.heap.objs.size:=by simpa using hb
    subst z
    exact I1.CC (Nat.le_refl _) (I1.hok.fresh (Nat.le_refl _))
   refine⟨_,[s1.heap.objs.size],_,Itv X.K l xs.length,H1,rfl,I2,II l _ xs.length,?_,f1,?_⟩
   ·have e1:(xs.length:Int)-1-((0:Nat):Int)=(xs.length:Int)-1:=by omega
    rw[e1];exact hit
   refine(show∀J H1,aH H H1->Yl X.K (g.P os) J H1 xs.reverse->Rr J H1 from q) _ H1 VQ fun i H' P' ex=>⟨fun d hd=>?_,fun hi=>?_⟩
   ·have hi:i<xs.length:=by
     have:=(List.getElem?_eq_some_iff.mp hd).1
     simpa using this
    rw[getElem?_reverse hi]at hd
    obtain⟨y,hy,iy⟩:=(IsL.ext ex _ _ h2).get hd
    refine⟨⟨hi,ws,y,(h1.ext ex).sq,hl2,hy⟩,fun z H2 VR=>?_⟩
    obtain⟨rfl,hall⟩:=VR
    have e2:=hall ws (h1.ext ex).sq
    rw[hy]at e2
    cases e2
    exact⟨aH.refl _,Is.ext ⟨fun _ _ p _=>.inl p,fun _ _ _ e=>e⟩ _ _ iy⟩
   ·exact⟨by simpa using hi.symm,ws,(h1.ext ex).sq⟩
  |non=>exact q.elim
  |bl _=>exact q.elim
  |int _=>exact q.elim
  |str _=>exact q.elim
  |exc _=>exact q.elim
  |fn _=>exact q.elim
  |tup _=>exact q.elim
end
def xV:D->String
 |.non=>"NoneType"
 |.bl _=>"bool"
 |.int _=>"int"
 |.str _=>"str"
 |.lst _=>"list"
 |.tup _=>"tuple"
 |.exc _=>"tuple"
 |.fn _=>"tuple"
def jv(t T:String):Bool:=t==T||(t=="bool"&&T=="int")
def A7(t T:String):Option Bool:=if((Value.type t)==(Value.type T))=true then some true else if PySem.W.kitMeta T=true then(fastBuiltinMro t).map (·.contains (.type T))else none
theorem Mu(K:PySem.W.Frag)(t T:String):kitOne K (.type t) (.type T)=A7 t T:=rfl
def CV(T:String):Prop:=∀d:D,A7 (xV d) T=some (jv (xV d) T)
theorem vX{T:String}(h:A7 "NoneType" T=some (jv "NoneType" T)/\A7 "bool" T=some (jv "bool" T)/\A7 "int" T=some (jv "int" T)/\A7 "str" T=some (jv "str" T)/\A7 "list" T=some (jv "list" T)/\A7 "tuple" T=some (jv "tuple" T)):CV T:=fun d=>by
 cases d with
 |non=>exact h.1
 |bl _=>exact h.2.1
 |int _=>exact h.2.2.1
 |str _=>exact h.2.2.2.1
 |lst _=>exact h.2.2.2.2.1
 |tup _=>exact h.2.2.2.2.2
 |exc _=>exact h.2.2.2.2.2
 |fn _=>exact h.2.2.2.2.2
theorem CW:CV "int":=vX (by decide +kernel)
theorem zx:CV "bool":=vX (by decide +kernel)
theorem zy:CV "list":=vX (by decide +kernel)
theorem IK:CV "tuple":=vX (by decide +kernel)
section
variable{X:Cx}{E:Str->Hp->Prop}{pos:Pos}
theorem Rm{pins:List (Addr×Obj)}{σ:St}{H:Hp}{s:Shared}{A:Around}{E:Value->Shared->Prop}{Q:Value->Shared->Prop}{d:D}{x:V}{u:Value}{T:String}{P:Addr->Prop}(I:Inv X pins σ H s)(rx:RelV x u)(hd:Is X.K P H d x)(hne:∀n,d≠.exc n/\d≠.fn n)(kt:CV T)(h:∀tk,Q (.bool (jv (xV d) T)) {s with toks:=tk}):
  wpAny (model X.prog X.w) A (call (.builtin "isinstance") [u,.type T]) Q E s:=by
 have e:kitOne X.K (.type (xV d)) (.type T)=some (jv (xV d) T):=(Mu _ _ _).trans (kt d)
 cases d with
 |non=>cases hd;exact qe I rx .non e h
 |bl b=>cases hd;exact qe I rx (.bl b) e h
 |int b=>cases hd;exact qe I rx (.int b) e h
 |str b=>cases hd;exact qe I rx (.str b) e h
 |lst ds=>
  obtain⟨a,vs,rfl,h1,h2⟩:=hd
  cases rx
  obtain⟨its,rv,⟨o,n,e1,c1,d1,t1⟩,hz⟩:=I.list h1.sq
  exact kia_one kitx_list I.tK ⟨o,e1,c1⟩ e (fun z=>nomatch z) h
 |tup ds=>
  obtain⟨a,vs,rfl,h1,h2⟩:=hd
  cases rx
  obtain⟨its,rv,⟨o,e1,c1,d1⟩,hz⟩:=I.tuple h1.sq
  exact kia_one kitx_tuple I.tK ⟨o,e1,c1⟩ e (fun z=>nomatch z) h
 |exc n=>exact((hne n).1 rfl).elim
 |fn n=>exact((hne n).2 rfl).elim
def Ar(T:String)(d:D):R D:=match d with
 |.exc _=>.bad
 |.fn _=>.bad
 |d=>.ok (.bl (jv (xV d) T))
theorem Rn{T:String}{d:D}(h:∀n,d≠.exc n/\d≠.fn n):Ar T d=.ok (.bl (jv (xV d) T)):=by
 cases d with
 |exc n=>exact((h n).1 rfl).elim
 |fn n=>exact((h n).2 rfl).elim
 |_=>rfl
theorem yf:bootBuiltins "isinstance"=some (.builtin "isinstance"):=by decide +kernel
theorem CY:bootBuiltins "int"=some (.type "int"):=by decide +kernel
theorem zA:bootBuiltins "bool"=some (.type "bool"):=by decide +kernel
theorem lF:bootBuiltins "list"=some (.type "list"):=by decide +kernel
theorem A8:bootBuiltins "tuple"=some (.type "tuple"):=by decide +kernel
theorem dQ:bootBuiltins "len"=some (.builtin "len"):=by decide +kernel
theorem CZ:bootBuiltins "abs"=some (.builtin "abs"):=by decide +kernel
theorem Ro:bootBuiltins "max"=some (.builtin "max"):=by decide +kernel
theorem yg{T:String}{x:Str}{p p2:Pos}{a:Expr}{f:DE->R D}(kt:CV T)(hv:bootBuiltins x=some (.type T))(hm:X.mg "isinstance"=none)(hmt:X.mg x=none)(ha:PE X a (tB X.K E f))(hg:Gl X "isinstance":=by rfl)(hgt:Gl X x:=by rfl)
  (hn:x≠"__name__":=by decide)(hdb:(x==("__debug__":Str))=false:=by decide)
  (hs:starEach [a,.Name x p2] X.env=(false,eval a X.env)::starEach [.Name x p2] X.env:=by rfl)(hpl:(backTo pos (starEach [.Name x p2] X.env)).any (·.1)=false:=by rfl)(hs2:starEach [.Name x p2] X.env=(false,eval (.Name x p2) X.env)::starEach [] X.env:=by rfl):
  PE X (.Call (.Name "isinstance" p) [a,.Name x p2] [] pos) (tD X.K E fun env=>(f env).bind (Ar T)):=by
 have hty:PE X (.Name x p2) (tC (.ty T)):=LM hgt hmt hv rfl hn hdb
 refine imp (jt (r:=fun xs H Q=>∃d v,xs=[v,.ty T]/\(∀n,d≠.exc n/\d≠.fn n)/\Is X.K Tr H d v/\Q (.bl (jv (xV d) T)) H) ?_ hg hm yf (aw ha (aw hty aJ hs2) hs) (by decide) (by decide) hs hpl) fun σ H Q ⟨g,env,os,r,m⟩=>⟨g,env,os,r,m.bind.mono fun d _ q v H' s i=>?_⟩
 ·intro pins s σ H xs us Q I r h
  obtain⟨d,v,rfl,hne,hd,q⟩:=h
  obtain⟨u,w,rfl,ru,oY⟩:=vals2 r
  have e:w=.type T:=oY
  subst e
  exact Rm I ru hd hne kt fun tk=>⟨.bl _,H,I.tok _,rfl,q⟩
 ·by_cases hne:∀n,d≠.exc n/\d≠.fn n
  ·rw[Rn hne]at q
   exact⟨d,v,rfl,hne,i,q _ H' s rfl⟩
  ·cases d with
   |exc n=>exact q.elim
   |fn n=>exact q.elim
   |_=>exact(hne fun n=>⟨fun z=>(nomatch z),fun z=>(nomatch z)⟩).elim
def bools:List D->Option (List Bool)
 |[]=>some []
 |.bl b::r=>(bools r).map (b::·)
 |_::_=>none
end
def Og:D->D->Option Bool
 |.non,.non=>some true
 |.bl a,.bl b=>some (a==b)
 |.int a,.int b=>some (a==b)
 |.str a,.str b=>some (a==b)
 |.bl a,.int b=>some ((if a then 1 else 0)==b)
 |.int a,.bl b=>some (a==(if b then 1 else 0))
 |.non,.bl _=>some false
 |.non,.int _=>some false
 |.non,.str _=>some false
 |.bl _,.non=>some false
 |.bl _,.str _=>some false
 |.int _,.non=>some false
 |.int _,.str _=>some false
 |.str _,.non=>some false
 |.str _,.bl _=>some false
 |.str _,.int _=>some false
 |_,_=>none
def qA(f:D->D->Option Bool):List D->List D->Option Bool
 |x::xs,y::ys=>(f x y).bind fun b=>(qA f xs ys).map (b&&·)
 |_,_=>some true
def uf:Nat->D->D->Option Bool
 |0,x,y=>Og x y
 |n+1,x,y=>match x,y with
  |.lst xs,.lst ys=>if xs.length=ys.length then qA (uf n) xs ys else some false
  |.tup xs,.tup ys=>(qA (uf n) xs ys).map (·&&xs.length==ys.length)
  |x,y=>Og x y
def Rp(f:D->D->Option Bool)(xs ys:List D)(j:Nat):Bool:=((xs[j]?).bind fun x=>(ys[j]?).bind fun y=>f x y).getD false
theorem wQ(n:Nat)(e:Nat->Bool):(range (n+1)).all e=(e 0&&(range n).all fun j=>e (j+1)):=by
 rw[List.range_succ_eq_map,List.all_cons,List.all_map]
 rfl
theorem ug{f:D->D->Option Bool}:∀{xs ys:List D}{b:Bool},qA f xs ys=some b->(∀(j:Nat)(x y:D),xs[j]?=some x->ys[j]?=some y->f x y=some (Rp f xs ys j))/\b=(range (min xs.length ys.length)).all (Rp f xs ys)
 |[],ys,b,h=>by
  have h':some true=some b:=by cases ys<;>exact h
  cases h'
  exact⟨fun j x y e=>by simp at e,by simp⟩
 |x::xs,[],b,h=>by
  cases h
  exact⟨fun j x y _ e=>by simp at e,by simp⟩
 |x::xs,y::ys,b,h=>by
  unfold qA at h
  cases e1:f x y with
  |none=>rw[e1]at h;cases h
  |some c=>
   cases e2:qA f xs ys with
   |none=>rw[e1,e2]at h;cases h
   |some d=>
    rw[e1,e2]at h
    have h':(c&&d)=b:=Option.some.inj h
    obtain⟨q1,q2⟩:=ug e2
    refine⟨fun j x' y' h1 h2=>?_,?_⟩
    ·cases j with
     |zero=>
      simp at h1 h2
      subst h1 h2
      show f x y=some (((some x).bind fun x=>(some y).bind fun y=>f x y).getD false)
      simp[e1]
     |succ j=>exact q1 j x' y' (by simpa using h1) (by simpa using h2)
    ·have e3:min (x::xs).length (y::ys).length=min xs.length ys.length+1:=by simp[Nat.succ_min_succ]
     rw[e3,wQ,<-h',q2]
     have e4:Rp f (x::xs) (y::ys) 0=c:=by
      show(((some x).bind fun x=>(some y).bind fun y=>f x y).getD false)=c
      simp[e1]
     rw[e4];rfl
section
variable{X:Cx}{pins:List (Addr×Obj)}{σ:St}{H:Hp}{s:Shared}
theorem IL{A:Around}{P:Addr->Prop}{x y:D}{v w:V}{u u':Value}{b:Bool}(hx:Is X.K P H x v)(hy:Is X.K P H y w)(rv:RelV v u)(oY:RelV w u')(e:Og x y=some b):SeqAt.EqAt A s u u' b/\SeqAt.RcAt A s u u' b/\SeqAt.RcNeAt A s u u' (!b):=by
 unfold Og at e
 split at e<;>first|cases e|skip
 ·cases hx;cases hy;cases rv;cases oY;exact⟨.same _,.none_none,.none_none⟩
 ·cases hx;cases hy;cases rv;cases oY;exact⟨.bool_bool _ _,.bool_bool _ _,.bool_bool _ _⟩
 ·cases hx;cases hy;obtain⟨t,rfl⟩:=rv;obtain⟨t',rfl⟩:=oY;exact⟨.int_int _ _ _ _,.int_int _ _ _ _,.int_int _ _ _ _⟩
 ·cases hx;cases hy;obtain⟨t,rfl⟩:=rv;obtain⟨t',rfl⟩:=oY;exact⟨.str_str _ _ _ _,.str_str _ _ _ _,.str_str _ _ _ _⟩
 ·cases hx;cases hy;cases rv;obtain⟨t',rfl⟩:=oY;exact⟨.bool_int _ _ _,.bool_int _ _ _,.bool_int _ _ _⟩
 ·cases hx;cases hy;obtain⟨t,rfl⟩:=rv;cases oY;exact⟨.int_bool _ _ _,.int_bool _ _ _,.int_bool _ _ _⟩
 ·cases hx;cases hy;cases rv;cases oY;exact⟨.none_bool _,.none_bool _,.none_bool _⟩
 ·cases hx;cases hy;cases rv;obtain⟨t',rfl⟩:=oY;exact⟨.none_int _ _,.none_int _ _,.none_int _ _⟩
 ·cases hx;cases hy;cases rv;obtain⟨t',rfl⟩:=oY;exact⟨.none_str _ _,.none_str _ _,.none_str _ _⟩
 ·cases hx;cases hy;cases rv;cases oY;exact⟨.bool_none _,.bool_none _,.bool_none _⟩
 ·cases hx;cases hy;cases rv;obtain⟨t',rfl⟩:=oY;exact⟨.bool_str _ _ _,.bool_str _ _ _,.bool_str _ _ _⟩
 ·cases hx;cases hy;obtain⟨t,rfl⟩:=rv;cases oY;exact⟨.int_none _ _,.int_none _ _,.int_none _ _⟩
 ·cases hx;cases hy;obtain⟨t,rfl⟩:=rv;obtain⟨t',rfl⟩:=oY;exact⟨.int_str _ _ _ _,.int_str _ _ _ _,.int_str _ _ _ _⟩
 ·cases hx;cases hy;obtain⟨t,rfl⟩:=rv;cases oY;exact⟨.str_none _ _,.str_none _ _,.str_none _ _⟩
 ·cases hx;cases hy;obtain⟨t,rfl⟩:=rv;cases oY;exact⟨.str_bool _ _ _,.str_bool _ _ _,.str_bool _ _ _⟩
 ·cases hx;cases hy;obtain⟨t,rfl⟩:=rv;obtain⟨t',rfl⟩:=oY;exact⟨.str_int _ _ _ _,.str_int _ _ _ _,.str_int _ _ _ _⟩
theorem A9{P:Addr->Prop}{x y:D}{v:V}{b:Bool}(hx:Is X.K P H x v)(hy:Is X.K P H y v)(e:Og x y=some b):b=true:=by
 unfold Og at e
 split at e<;>first|cases e|skip
 all_goals cases hx
 all_goals cases hy
 all_goals simp
theorem wR{P:Addr->Prop}{f:D->D->Option Bool}:∀{xs ys:List D}{vs:List V}{b:Bool},(∀x y v b,Is X.K P H x v->Is X.K P H y v->f x y=some b->b=true)->IsL X.K P H xs vs->IsL X.K P H ys vs->qA f xs ys=some b->b=true/\xs.length=ys.length
 |[],ys,vs,b,_,hx,hy,e=>by
  have e':vs=[]:=hx
  subst e'
  have:=IsL.length hy
  cases ys with
  |nil=>cases e;exact⟨rfl,rfl⟩
  |cons _ _=>simp at this
 |x::xs,[],vs,b,_,hx,hy,e=>by
  have:=IsL.length hx
  have e':vs=[]:=hy
  subst e'
  simp at this
 |x::xs,y::ys,vs,b,hf,⟨v,r,e1,p1,q1⟩,⟨v',r',e2,p2,q2⟩,e=>by
  subst e1
  cases e2
  unfold qA at e
  cases h1:f x y with
  |none=>rw[h1]at e;cases e
  |some c=>
   cases h2:qA f xs ys with
   |none=>rw[h1,h2]at e;cases e
   |some d=>
    rw[h1,h2]at e
    have e':(c&&d)=b:=Option.some.inj e
    obtain⟨z1,z2⟩:=wR hf q1 q2 h2
    have z3:=hf x y v c p1 p2 h1
    subst z1 z3 e'
    exact⟨rfl,by simp[z2]⟩
theorem rM(I:Inv X pins σ H s){P:Addr->Prop}:∀(n:Nat)(x y:D)(v:V)(b:Bool),Is X.K P H x v->Is X.K P H y v->uf n x y=some b->b=true
 |0,x,y,v,b,hx,hy,e=>A9 hx hy e
 |n+1,x,y,v,b,hx,hy,e=>by
  unfold uf at e
  split at e
  ·rename_i xs ys
   obtain⟨a,vs,rfl,h1,h2⟩:=hx
   obtain⟨a',D7,ea,h3,h4⟩:=hy
   cases ea
   have ev:=I.mH h1.sq h3.sq
   subst ev
   split at e
   ·exact(wR (rM I n) h2 h4 e).1
   ·rename_i c
    exact absurd ((IsL.length h2).symm.trans (IsL.length h4)) c
  ·rename_i xs ys
   obtain⟨a,vs,rfl,h1,h2⟩:=hx
   obtain⟨a',D7,ea,h3,h4⟩:=hy
   cases ea
   have ev:=I.F5 h1.sq h3.sq
   subst ev
   cases ez:qA (uf n) xs ys with
   |none=>rw[ez]at e;cases e
   |some c=>
    rw[ez]at e
    obtain⟨z1,z2⟩:=wR (rM I n) h2 h4 ez
    subst z1
    have e':(true&&(xs.length==ys.length))=b:=Option.some.inj e
    rw[<-e',z2];simp
  ·exact A9 hx hy e
theorem in1_units(A:Around):A.in1.units=A.units+1:=rfl
theorem Eh(I:Inv X pins σ H s){P:Addr->Prop}:∀(n:Nat)(A:Around)(x y:D)(v w:V)(u u':Value)(b:Bool),A.units+n<cLine->Is X.K P H x v->Is X.K P H y w->RelV v u->RelV w u'->uf n x y=some b->SeqAt.EqAt A s u u' b/\SeqAt.RcAt A s u u' b/\SeqAt.RcNeAt A s u u' (!b)
 |0,A,x,y,v,w,u,u',b,hu,hx,hy,rv,oY,e=>IL hx hy rv oY e
 |n+1,A,x,y,v,w,u,u',b,hu,hx,hy,rv,oY,e=>by
  have e0:=e
  unfold uf at e
  have hu1:A.in1.units+n<cLine:=by rw[in1_units];omega
  have Ui:A.units<cLine:=by omega
  split at e
  ·rename_i xs ys
   have ZV:=hx
   have ZW:=hy
   obtain⟨a,vs,rfl,h1,h2⟩:=hx
   obtain⟨a',D7,rfl,h3,h4⟩:=hy
   cases rv
   cases oY
   obtain⟨its,VU,pl,hz⟩:=I.list h1.sq
   obtain⟨its',IM,Rq,X7⟩:=I.list h3.sq
   have l1:=VU.length
   have l2:=IM.length
   have l3:vs.length=xs.length:=IsL.length h2
   have l4:D7.length=ys.length:=IsL.length h4
   have main:SeqAt.RcAt A s (.ref a) (.ref a') b/\SeqAt.RcNeAt A s (.ref a) (.ref a') (!b):=by
    split at e
    ·rename_i c
     obtain⟨q1,q2⟩:=ug e
     have hsz:its.toArray.size=its'.toArray.size:=by simp;omega
     have ZX:min xs.length ys.length=its.toArray.size:=by simp;omega
     rw[ZX]at q2
     subst q2
     have he:∀j (g1:j<its.toArray.size)(g2:j<its'.toArray.size),SeqAt.EqAt A.in1 s its.toArray[j] its'.toArray[j] (Rp (uf n) xs ys j):=fun j g1 g2=>by
      have j1:j<xs.length:=by simp at g1;omega
      have j2:j<ys.length:=by simp at g2;omega
      have f:=q1 j _ _ (getElem?_eq_getElem j1) (getElem?_eq_getElem j2)
      obtain⟨v1,hv1,Hq⟩:=IsL.get h2 (getElem?_eq_getElem j1)
      obtain⟨v2,hv2,Hr⟩:=IsL.get h4 (getElem?_eq_getElem j2)
      obtain⟨u1,Rt,ZY⟩:=VU.get hv1
      obtain⟨u2,Ru,Rk⟩:=IM.get hv2
      have E1:its.toArray[j]=u1:=by
       have:=List.getElem?_eq_some_iff.mp Rt
       obtain⟨_,h⟩:=this
       simpa using h
      have E2:its'.toArray[j]=u2:=by
       have:=List.getElem?_eq_some_iff.mp Ru
       obtain⟨_,h⟩:=this
       simpa using h
      rw[E1,E2]
      exact(Eh I n A.in1 _ _ _ _ _ _ _ hu1 Hq Hr ZY Rk f).1
     exact⟨SeqAt.RcAt.lists pl.isList Rq.isList hsz Ui he,SeqAt.RcNeAt.lists pl.isList Rq.isList hsz Ui he⟩
    ·rename_i c
     cases e
     have hsz:(its.toArray.size !=its'.toArray.size)=true:=by simp;omega
     exact⟨SeqAt.RcAt.lists_lengths pl.isList Rq.isList hsz Ui,SeqAt.RcNeAt.lists_lengths pl.isList Rq.isList hsz Ui⟩
   refine⟨?_,main⟩
   by_cases ha:a=a'
   ·subst ha
    have:=rM I (n+1) _ _ _ _ ZV ZW e0
    subst this
    exact .same _
   ·exact .of_refs ha main.1
  ·rename_i xs ys
   have ZV:=hx
   have ZW:=hy
   obtain⟨a,vs,rfl,h1,h2⟩:=hx
   obtain⟨a',D7,rfl,h3,h4⟩:=hy
   cases rv
   cases oY
   obtain⟨its,VU,pl,hz⟩:=I.tuple h1.sq
   obtain⟨its',IM,Rq,X7⟩:=I.tuple h3.sq
   have l1:=VU.length
   have l2:=IM.length
   have l3:vs.length=xs.length:=IsL.length h2
   have l4:D7.length=ys.length:=IsL.length h4
   have main:SeqAt.RcAt A s (.ref a) (.ref a') b/\SeqAt.RcNeAt A s (.ref a) (.ref a') (!b):=by
    cases ez:qA (uf n) xs ys with
    |none=>rw[ez]at e;cases e
    |some c=>
     rw[ez]at e
     obtain⟨q1,q2⟩:=ug ez
     have s1:xs.length=its.toArray.size:=by simp;omega
     have s2:ys.length=its'.toArray.size:=by simp;omega
     have e':(c&&(xs.length==ys.length))=b:=Option.some.inj e
     rw[q2]at e'
     have he:∀j (g1:j<its.toArray.size)(g2:j<its'.toArray.size),SeqAt.EqAt A.in1 s its.toArray[j] its'.toArray[j] (Rp (uf n) xs ys j):=fun j g1 g2=>by
      have j1:j<xs.length:=by simp at g1;omega
      have j2:j<ys.length:=by simp at g2;omega
      have f:=q1 j _ _ (getElem?_eq_getElem j1) (getElem?_eq_getElem j2)
      obtain⟨v1,hv1,Hq⟩:=IsL.get h2 (getElem?_eq_getElem j1)
      obtain⟨v2,hv2,Hr⟩:=IsL.get h4 (getElem?_eq_getElem j2)
      obtain⟨u1,Rt,ZY⟩:=VU.get hv1
      obtain⟨u2,Ru,Rk⟩:=IM.get hv2
      have E1:its.toArray[j]=u1:=by
       have:=List.getElem?_eq_some_iff.mp Rt
       obtain⟨_,h⟩:=this
       simpa using h
      have E2:its'.toArray[j]=u2:=by
       have:=List.getElem?_eq_some_iff.mp Ru
       obtain⟨_,h⟩:=this
       simpa using h
      rw[E1,E2]
      exact(Eh I n A.in1 _ _ _ _ _ _ _ hu1 Hq Hr ZY Rk f).1
     subst e'
     have R1:=SeqAt.RcAt.tuples (A:=A) (e:=Rp (uf n) xs ys) pl Rq Ui he
     have R2:=SeqAt.RcNeAt.tuples (A:=A) (e:=Rp (uf n) xs ys) pl Rq Ui he
     rw[<-s1,<-s2]at R1 R2
     exact⟨R1,R2⟩
   refine⟨?_,main⟩
   by_cases ha:a=a'
   ·subst ha
    have:=rM I (n+1) _ _ _ _ ZV ZW e0
    subst this
    exact .same _
   ·exact .of_refs ha main.1
  ·exact IL hx hy rv oY e
end
section
variable{X:Cx}{E:Str->Hp->Prop}{pos:Pos}
def Mv(K:PySem.W.Frag)(ne:Bool):R2:=fun v w H Q=>∃x y b,Is K Tr H x v/\Is K Tr H y w/\uf 6 x y=some b/\Q (.bl (if ne=true then !b else b)) H
theorem lZ(hu:X.A.units+6<cLine):tQ X (compareOp .Eq) (Mv X.K false):=by
 intro pins s σ H v w u u' Q I rx ry h
 obtain⟨x,y,b,hx,hy,e,q⟩:=h
 exact(Eh I 6 X.A x y v w u u' b hu hx hy rx ry e).2.1 X.prog X.w _ _ ⟨.bl b,H,I,rfl,q⟩
theorem nM(hu:X.A.units+6<cLine):tQ X (compareOp .NotEq) (Mv X.K true):=by
 intro pins s σ H v w u u' Q I rx ry h
 obtain⟨x,y,b,hx,hy,e,q⟩:=h
 exact(Eh I 6 X.A x y v w u u' b hu hx hy rx ry e).2.2 X.prog X.w _ _ ⟨.bl (!b),H,I,rfl,q⟩
def Au(x y:D):Option D:=(uf 6 x y).map .bl
def Av(x y:D):Option D:=(uf 6 x y).map fun b=>.bl (!b)
theorem jd:oU X (Mv X.K false) Au:=fun x y d e=>by
 unfold Au at e
 cases h:uf 6 x y with
 |none=>rw[h]at e;cases e
 |some b=>
  rw[h]at e;cases e
  exact⟨_,rfl,fun H v w Q i1 i2 q=>⟨x,y,b,i1,i2,h,q⟩⟩
theorem jW:oU X (Mv X.K true) Av:=fun x y d e=>by
 unfold Av at e
 cases h:uf 6 x y with
 |none=>rw[h]at e;cases e
 |some b=>
  rw[h]at e;cases e
  exact⟨_,rfl,fun H v w Q i1 i2 q=>⟨x,y,b,i1,i2,h,q⟩⟩
theorem bu.u6 {k:Nat}{A:Around}(r:bu k A):A.units+6<cLine:=by have:=r.un;omega
end
def Kp(nt:Nat)(b:D->DE->R DE):Prop:=∀(d:D)(r ts e':DE),ts.length=nt->b d (ts++r)=.ok e'->∃VV,e'=VV++r/\VV.length=nt
def Oh(nt:Nat)(b:List D->DE->R DE):Prop:=∀(d:List D)(r ts e':DE),ts.length=nt->b d (ts++r)=.ok e'->∃VV,e'=VV++r/\VV.length=nt
theorem kpN{nt:Nat}(i:Nat)(hi:i<nt:=by decide):Kp nt fun d env=>.ok (env.set i (.val d)):=fun d r ts e' hl h=>by
 cases h
 exact⟨ts.set i (.val d),by rw[List.set_append_left _ _ (by omega)],by simp[hl]⟩
theorem VW{nt:Nat}:Oh nt fun ds env=>match ds with
  |[]=>.ok env
  |_=>.bad:=fun d r ts e' hl h=>by
 cases d with
 |nil=>cases h;exact⟨ts,rfl,hl⟩
 |cons _ _=>cases h
theorem Rv{nt:Nat}{b:D->DE->R DE}{k:List D->DE->R DE}(hb:Kp nt b)(hk:Oh nt k):Oh nt fun ds env=>match ds with
   |d::r=>(b d env).bind fun e'=>k r e'
   |_=>.bad:=fun d r ts e' hl h=>by
 cases d with
 |nil=>cases h
 |cons x xs=>
  obtain⟨e1,h1,h2⟩:=R.ee (show(b x (ts++r)).bind (fun e'=>k xs e')=.ok e' from h)
  obtain⟨t1,rfl,l1⟩:=hb x r ts e1 hl h1
  exact hk xs r t1 e' l1 h2
theorem kpT{nt n:Nat}{b:List D->DE->R DE}(hb:Oh nt b):Kp nt fun d env=>match d with
   |.tup ds=>if ds.length=n then b ds env else .bad
   |_=>.bad:=fun d r ts e' hl h=>by
 cases d with
 |tup ds=>
  have h':(if ds.length=n then b ds (ts++r)else .bad)=.ok e':=h
  split at h'
  ·exact hb ds r ts e' hl h'
  ·cases h'
 |non=>cases h
 |bl _=>cases h
 |int _=>cases h
 |str _=>cases h
 |lst _=>cases h
 |exc _=>cases h
 |fn _=>cases h
theorem Kp.ok {nt:Nat}{b:D->DE->R DE}(h:Kp nt b):∀ds d e,b d (jQ nt ds)=.ok e->∃ts,e=ts++ds.map Sl.val/\ts.length=nt:=fun ds d e q=>h d _ _ e (by simp) q
structure Df(K:PySem.W.Frag)(mg:Str->Option Value)(x:Str)(st:Stmt)(ps:List Str)(f:Addr)(fd:FuncData):Prop where
 F:AM K x x st f fd
 b:Binds K fd ps []
 m:mg x=some (.ref f)
 ns:nsIn K mainGlobals x=some (some (.ref f))
abbrev Hs:Str->Value:=fun _=>.none
section
variable{X:Cx}{E:Str->Hp->Prop}{pos:Pos}{k:Nat}{fa:Addr}{fd:FuncData}{st:Stmt}{ps:List Str}{x:Str}{p:Pos}{e:Expr}{es:List Expr}{f:DE->R (List D)}
theorem Oi{m:List D->R D}(d:Df X.K X.mg x st ps fa fd)(F:cu X.prog X.w X.K X.mg X.base lB k fa fd ps (D9 X.K Hs m))(hr:bu k X.A)
  (ha:PA X (e::es) (Hk X.K E f))(hg:Gl X x:=by rfl)(hdb:(x==("__debug__":Str))=false:=by decide)(he:starEach (e::es) X.env=(false,eval e X.env)::starEach es X.env:=by rfl)(hpl:(backTo pos (starEach es X.env)).any (·.1)=false:=by rfl):
  PE X (.Call (.Name x p) (e::es) [] pos) (tD X.K E fun env=>(f env).bind m):=fD F d.m d.F.kp d.b hr lD ha hg hdb he hpl
def ScD(m:List D->R D):Prop:=∀ds d,m ds=.ok d->∃z,toV d=some z
def ScL(m:List D->R (List D)):Prop:=∀ds xs,m ds=.ok xs->∀d∈xs,∃z,toV d=some z
theorem Mw{m:List D->R D}(hsc:ScD m)(d:Df X.K X.mg x st ps fa fd)(F:cu X.prog X.w X.K X.mg X.base lB k fa fd ps (D9 X.K Hs m))(hr:bu k X.A)
  (ha:PA X (e::es) (rF X.K E f))(hg:Gl X x:=by rfl)(hdb:(x==("__debug__":Str))=false:=by decide)(he:starEach (e::es) X.env=(false,eval e X.env)::starEach es X.env:=by rfl)(hpl:(backTo pos (starEach es X.env)).any (·.1)=false:=by rfl):
  PE X (.Call (.Name x p) (e::es) [] pos) (tD X.K E fun env=>(f env).bind m):=fB F hsc d.m d.F.kp d.b hr lD ha hg hdb he hpl
theorem uh{m:List D->R (List D)}(d:Df X.K X.mg x st ps fa fd)(F:cu X.prog X.w X.K X.mg X.base lB k fa fd ps (Lo X.K Hs m))(hr:bu k X.A)
  (ha:PA X (e::es) (Hk X.K E f))(hg:Gl X x:=by rfl)(hdb:(x==("__debug__":Str))=false:=by decide)(he:starEach (e::es) X.env=(false,eval e X.env)::starEach es X.env:=by rfl)(hpl:(backTo pos (starEach es X.env)).any (·.1)=false:=by rfl):
  PE X (.Call (.Name x p) (e::es) [] pos) (tF X.K E fun env=>(f env).bind m):=fF F d.m d.F.kp d.b hr lD ha hg hdb he hpl
theorem Rw{m:List D->R (List D)}(hsc:ScL m)(d:Df X.K X.mg x st ps fa fd)(F:cu X.prog X.w X.K X.mg X.base lB k fa fd ps (Lo X.K Hs m))(hr:bu k X.A)
  (ha:PA X (e::es) (rF X.K E f))(hg:Gl X x:=by rfl)(hdb:(x==("__debug__":Str))=false:=by decide)(he:starEach (e::es) X.env=(false,eval e X.env)::starEach es X.env:=by rfl)(hpl:(backTo pos (starEach es X.env)).any (·.1)=false:=by rfl):
  PE X (.Call (.Name x p) (e::es) [] pos) (tF X.K E fun env=>(f env).bind m):=fFB F hsc d.m d.F.kp d.b hr lD ha hg hdb he hpl
end
abbrev Ok(P:Program)(w:World)(K:PySem.W.Frag)(mg:Str->Option Value)(base:Heap)(k:Nat)(f:Addr)(fd:FuncData)(ps:List Str)(m:List D->R D):Prop:=cu P w K mg base lB k f fd ps (D9 K Hs m)
abbrev jD(P:Program)(w:World)(K:PySem.W.Frag)(mg:Str->Option Value)(base:Heap)(k:Nat)(f:Addr)(fd:FuncData)(ps:List Str)(m:List D->R (List D)):Prop:=cu P w K mg base lB k f fd ps (Lo K Hs m)
section
variable{P:Program}{w:World}{K:PySem.W.Frag}{mg:Str->Option Value}{base:Heap}
theorem mkD{x:Str}{st:Stmt}{f:Addr}{fd:FuncData}{N ps:List Str}{k:Nat}{m:List D->R D}{b:DE->R Out}(S:az N ps (ae st))(d:Df K mg x st ps f fd)
  (hb:∀(cdv:Value)(A:Around)(outer:List Env)(s:Shared)(H:Hp)(E:XK),bu k (A.deeper (envOfC x (ae st) s.heap.objs.size f cdv))->qD (qV lB P w K mg base N x (ae st) f cdv A outer s H E).Hg (bH st) (tS K EN b))
  (hm:∀ds d,m ds=.ok d->ds.length=ps.length/\(b (aG N.length ds)).bind aj=.ok d)(hne:∀ds c,m ds≠.err c):
  Ok P w K mg base (k+1) f fd ps m:=ZA d.F S hm hne hb
theorem mkF{x:Str}{st:Stmt}{f:Addr}{fd:FuncData}{N ps:List Str}{k:Nat}{m:List D->R (List D)}{b:DE->R Out}(S:az N ps (ae st))(d:Df K mg x st ps f fd)
  (hb:∀(cdv:Value)(A:Around)(outer:List Env)(s:Shared)(H:Hp)(E:XK),bu k (A.deeper (envOfC x (ae st) s.heap.objs.size f cdv))->qD (qV lB P w K mg base N x (ae st) f cdv A outer s H E).Hg (bH st) (tS K EN b))
  (hm:∀ds d,m ds=.ok d->ds.length=ps.length/\(b (aG N.length ds)).bind ak=.ok d)(hne:∀ds c,m ds≠.err c):
  jD P w K mg base (k+1) f fd ps m:=ZC d.F S hm hne hb
end
section
variable{X:Cx}{E:Str->Hp->Prop}{pos:Pos}
def Ba(x y:D):Option D:=match y with
 |.non=>some (.bl (match x with
  |.non=>false
  |_=>true))
 |_=>none
theorem My{K:PySem.W.Frag}{P:Addr->Prop}{H:Hp}{x:D}{v:V}(h:Is K P H x v):decide (v=V.non)=(match x with
  |.non=>true
  |_=>false):=by
 cases x with
 |non=>cases h;rfl
 |bl _=>cases h;rfl
 |int _=>cases h;rfl
 |str _=>cases h;rfl
 |lst _=>obtain⟨a,vs,rfl,_⟩:=h;rfl
 |tup _=>obtain⟨a,vs,rfl,_⟩:=h;rfl
 |exc _=>obtain⟨a,vs,rfl,_⟩:=h;rfl
 |fn _=>obtain⟨a,rfl,_⟩:=h;rfl
theorem IP:oU X (fun x y H Q=>y=.non/\Q (.bl (!decide (x=.non))) H) Ba:=fun x y d e=>by
 unfold Ba at e
 split at e
 ·cases e
  refine⟨_,rfl,fun H v w Q h1 h2 q=>⟨h2,?_⟩⟩
  rw[My h1]
  cases x<;>exact q
 ·cases e
def zB(xs:List D):D->R (List D)
 |.int k=> @ite _ (-(2^63)<=k/\k<2^63/\xs.length*k.toNat<=sizeLine) (propDecidable _) (.ok (replicate k.toNat xs).flatten) .bad
 |_=>.bad
theorem IsL.rep {K:PySem.W.Frag}{P:Addr->Prop}{H:Hp}{ds:List D}{vs:List V}(h:IsL K P H ds vs):∀n:Nat,IsL K P H (replicate n ds).flatten (replicate n vs).flatten
 |0=>rfl
 |n+1=>by
  rw[replicate_succ,replicate_succ,flatten_cons,flatten_cons]
  exact h.app (IsL.rep h n)
theorem VX{a b:Expr}{fa:DE->R (List D)}{fb:DE->R D}(ha:PE X a (tF X.K E fa))(hb:PE X b (tB X.K E fb)):PE X (.BinOp a .Mult b pos) (tF X.K E fun env=>(fa env).bind fun x=>(fb env).bind fun y=>zB x y):=
 imp (qF Ic ha hb) fun σ H Q ⟨g,env,os,r,m⟩=>⟨g,env,os,r,m.bind.mono fun x _ m1 a1 v1 H1 s1 hn hH i1=>⟨g,env,os,r.same s1,m1.bind.mono fun y _ m2 w H2 s2 i2=>by
  unfold zB at m2
  split at m2
  ·rename_i k _
   split at m2
   ·rename_i c
    have Uc:IsL X.K (g.P os) H1 x v1:=IsL.ext ⟨fun b o p _=>⟨p.1,fun z=>p.2 (mem_cons_of_mem _ z)⟩,fun _ _ _ q=>q⟩ _ _ i1
    refine⟨a1,k,v1,rfl,i2,s2 _ _ hH,c.1,c.2.1,by rw[Uc.length];exact c.2.2,fun p hp=>?_⟩
    obtain⟨b1,b2,b3,b4⟩:=CT r (s1.trans s2) hp ((Uc.same s2).rep k.toNat)
    exact m2 p _ _ b1 b2 b3 b4
   ·exact m2.elim
  ·exact m2.elim⟩⟩
theorem wU:bootBuiltins "range"=some (.type "range"):=by decide +kernel
def nN:List D->R (List D)
 |[.int j]=> @ite _ (0<=j/\j<=1000000) (propDecidable _) (.ok (nK 0 j.toNat)) .bad
 |_=>.bad
theorem Mz{K:PySem.W.Frag}{P:Addr->Prop}{H:Hp}{n:Nat}:IsL K P H (nK 0 n) ((range n).map fun i=>V.int (0+(i:Nat))):=by
 unfold nK
 induction (range n)with
 |nil=>rfl
 |cons x r ih=>exact⟨_,_,rfl,rfl,ih⟩
theorem yh{acc:List Value}{n:Nat}(h1:acc.length=n)(h2:∀(j:Nat)(v:Value),acc[j]?=some v->∃t,v=.int (0+(j:Nat)) t):Vals ((range n).map fun i=>V.int (0+(i:Nat))) acc:=by
 have gen:∀(l:List Value)(k:Nat),(∀(j:Nat)(v:Value),l[j]?=some v->∃t,v=.int (0+((k+j:Nat):Int)) t)->Vals ((range' k l.length).map fun i=>V.int (0+(i:Nat))) l:=by
  intro l
  induction l with
  |nil=>intro k _;exact .nil
  |cons x r ih=>
   intro k hk
   rw[length_cons,range'_succ,map_cons]
   refine .cons ?_ (ih (k+1) fun j v e=>?_)
   ·obtain⟨t,e⟩:=hk 0 x (by simp)
    exact⟨t,e⟩
   ·obtain⟨t,e⟩:=hk (j+1) v (by simpa using e)
    exact⟨t,by rw[e];congr 2;omega⟩
 subst h1
 rw[List.range_eq_range']
 exact gen acc 0 fun j v e=>by
  obtain⟨t,q⟩:=h2 j v e
  exact⟨t,by rw[q];congr 2;omega⟩
theorem C0{a:Expr}{p p2 qZ:Pos}{f:DE->R (List D)}(hc:X.calm=true)(IQ:X.mg "list"=none)(VY:X.mg "range"=none)(ha:PA X [a] (rF X.K E f))(VZ:Gl X "list":=by rfl)(hgr:Gl X "range":=by rfl)
  (hs:starEach [a] X.env=[(false,eval a X.env)]:=by rfl)(he:starEach [.Call (.Name "range" p2) [a] [] qZ] X.env=(false,eval (.Call (.Name "range" p2) [a] [] qZ) X.env)::starEach [] X.env:=by rfl)(hpl:(backTo pos (starEach [] X.env)).any (·.1)=false:=by rfl):
  PE X (.Call (.Name "list" p) [.Call (.Name "range" p2) [a] [] qZ] [] pos) (tF X.K E fun env=>(f env).bind nN):=by
 intro pins s σ H Q I h
 obtain⟨g,env,os,r,m⟩:=h
 refine wpAny_Call_Name_kw (gD I VZ IQ lF ?_)
 refine PyProof.Rows.callWith_type1 ?_ he hpl
 rw[he]
 refine Calls.spliced_cons ?_
 refine Call_ (gD I hgr VY wU (PyProof.Rows.callWith_type1 (cj (ha qZ pins s σ H _ I ⟨g,env,os,r,m.bind.mono fun ds _ q vs H1 s1 i1=>(⟨ds,s1,i1,q⟩:∃ds,aH H H1/\IsL X.K Tr H1 ds vs/\Good E g.H₀ (nN ds) _)⟩) fun us s1 ⟨vs,H1,I1,r1,ds,sm,i1,q⟩=>?_) hs rfl))
 unfold nN at q
 split at q
 ·rename_i j
  split at q
  ·rename_i c
   obtain⟨v,rfl,iv⟩:=IsL.yd i1
   have V0:v=.int j:=iv
   subst V0
   obtain⟨u,rfl,t,rfl⟩:=vals1 r1
   refine call_range_1 ?_
   have I2:Inv X pins σ H1 {s1 with heap:=s1.heap.push {cls:=.type "range",data:=.fields #[.int 0 s1.toks,.int j t,.int 1 (s1.toks+1)]},toks:=s1.toks+1+1}:=I1.kept fun b o e=>Heap.get?_push_of_some _ e
   refine Calls.spliced_nil ?_
   have hd:X.A.handled=none:=I.ok.hd hc
   have hsz:Builtin.Range.rangeSize 0 j 1=(j.toNat:Nat):=by rw[rangeSize_one];split<;>omega
   refine call_list_range hd (IsRange.new ..) (small_one (by omega) (by omega) (by omega) (by omega)) hsz (by omega) fun h' tk oW c' hk hl hit=>?_
   obtain⟨hi1,hi2⟩:=hit
   have hv:Vals ((range j.toNat).map fun i=>V.int (0+(i:Nat))) oW.toList:=yh (by simpa using hi1) fun i v e=>by
    obtain⟨t,q⟩:=hi2 i v (by simpa using e)
    exact⟨t,by rw[q];congr 1;omega⟩
   have hlen:((range j.toNat).map fun i=>V.int (0+(i:Nat))).length<=sizeLine:=by
    rw[length_map,length_range]
    exact le_trans (show j.toNat<=1000000 by omega) (by decide)
   refine⟨.ref _,upd H1 _ (.lst ((range j.toNat).map fun i=>V.int (0+(i:Nat)))),I2.laid (a:=_) hk (Nat.le_refl _) ⟨hlen,oW.toList,c',hv,by simpa using hl⟩,rfl,?_⟩
   have hn:H1 (s1.heap.push {cls:=.type "range",data:=.fields #[.int 0 s1.toks,.int j t,.int 1 (s1.toks+1)]}).objs.size=none:=I2.hok.fresh (Nat.le_refl _)
   exact q _ _ _ (sm.trans (aI hn _)) (sm.free hn) ar Mz
  ·exact q.elim
 ·exact q.elim
end
def jw:D->D->Option D
 |.int i,.int j=>some (.int (i+j))
 |_,_=>none
theorem cK{X:Cx}:oU X (DY fun i j=>.int (i+j)) jw:=o8 (h:=fun i j=>.int (i+j)) (fun _ _=>rfl) fun x y d e=>by
 unfold jw at e
 split at e<;>cases e
 exact⟨_,_,rfl,rfl,rfl⟩
def Oj(Ol sc:Scope)(XN N:List Str)(nt:Nat)(caps:List Nat):Bool:=
 sc.kind==.function&&sc.names.all (fun y=>y.2 !=.cell&&(y.2 !=.local||sc.names.lookup y.1==some .local)&&(y.2 !=.free||Ol.names.lookup y.1==some .cell||Ol.names.lookup y.1==some .free))&&
 N.length==nt+caps.length&&decide N.Nodup&&(range caps.length).all fun j=>match caps[j]?,N[nt+j]? with
  |some i,some x=>XN[i]?==some x&&sc.names.lookup x==some .free&&(Ol.names.lookup x==some .local||Ol.names.lookup x==some .cell||Ol.names.lookup x==some .free)
  |_,_=>false
theorem Gz{X:Cx}{sc:Scope}{N:List Str}{nt:Nat}{caps:List Nat}(Ol:Scope)(XN:List Str)(h:Oj Ol sc XN N nt caps=true)(hsc:X.env.scope=Ol:=by rfl)(hN:X.N=XN:=by rfl):jc X sc N nt caps:=by
 subst hsc hN
 unfold Oj at h
 simp only [and_eq_true,List.all_eq_true,or_eq_true,decide_eq_true_eq,beq_iff_eq,bne_iff_ne,ne_eq]at h
 obtain⟨⟨⟨⟨h1,h2⟩,h3⟩,h4⟩,h5⟩:=h
 refine⟨by simpa using h1,fun y hy=>(h2 y hy).1.1,fun y hy e=>?_,fun y hy e=>?_,h3,h4,fun j i e=>?_⟩
 ·rcases(h2 y hy).1.2 with q|q
  ·exact absurd e q
  ·exact q
 ·rcases(h2 y hy).2 with(q|q)|q
  ·exact absurd e q
  ·exact .inl q
  ·exact .inr q
 ·have hj:j<caps.length:=(List.getElem?_eq_some_iff.mp e).1
  have q:=h5 j (by simpa using hj)
  rw[e]at q
  cases hx:N[nt+j]? with
  |none=>rw[hx]at q;exact absurd q (by simp)
  |some x=>
   rw[hx]at q
   simp only [and_eq_true,or_eq_true,beq_iff_eq]at q
   obtain⟨⟨q1,q2⟩,q3⟩:=q
   refine⟨x,rfl,q1,q2,?_⟩
   rcases q3 with(q3|q3)|q3
   ·exact .inl q3
   ·exact .inr (.inl q3)
   ·exact .inr (.inr q3)
def ZZ(i:Nat):Out->R Out
 |.nx e=>.ok (.nx (xZ i e))
 |o=>.ok o
theorem zC(i j:Int):jw (.int i) (.int j)=some (.int (i+j)):=rfl
theorem IS(i j:Int):gZ (.int i) (.int j)=some (.int (i-j)):=rfl
theorem IU(i:Int):rG (.int i)=some (.int (-i)):=rfl
theorem Om(i j:Int):Io (.int i) (.int j)=some (.bl (decide (i<j))):=rfl
theorem Oo(i j:Int):XW (.int i) (.int j)=some (.bl (decide (i<=j))):=rfl
theorem Oq(i j:Int):Cq (.int i) (.int j)=some (.bl (decide (j<i))):=rfl
theorem Ot(i j:Int):kGe (.int i) (.int j)=some (.bl (decide (j<=i))):=rfl
theorem Ou(i j:Int):Au (.int i) (.int j)=some (.bl (i==j)):=rfl
theorem Ov(i j:Int):Av (.int i) (.int j)=some (.bl (!(i==j))):=rfl
theorem Ow(i j:Str):Au (.str i) (.str j)=some (.bl (i==j)):=rfl
theorem Ox(i j:Str):Av (.str i) (.str j)=some (.bl (!(i==j))):=rfl
theorem C1(i j:Int)(h:(-(2^64)<i/\i<2^64)\/(-(2^64)<j/\j<2^64)):Gs (.int i) (.int j)=some (.int (i*j)):=if_pos h
theorem wV(i j:Int)(h:0<j/\j<1073741824):AX (.int i) (.int j)=some (.int (i/j)):=if_pos h
theorem jE(i j:Int)(h:0<j):qz (.int i) (.int j)=some (.int (i%j)):=if_pos h
theorem Rx(i j:Int)(h:0<=j/\j<=1000000/\i.natAbs<2^64):Im (.int i) (.int j)=some (.int (i^j.toNat)):=if_pos h
theorem Z0:(10:Int)^(9:Nat)=1000000000:=by
 rw[show(10:Int)=((10:Nat):Int)from rfl,<-Int.natCast_pow]
 rfl
theorem V1:(10:Int)^(9:Int).toNat=1000000000:=Z0
theorem IV:Im (.int 10) (.int 9)=some (.int 1000000000):=(Rx 10 9 (by decide)).trans (by rw[V1])
theorem IW(i:Int):Gv [.int i]=some (.int (if i<0 then-i else i)):=rfl
theorem Ei(i j:Int):D8 [.int i,.int j]=some (.int (if j>i then j else i)):=rfl
theorem IX(xs:List D):oV [.lst xs]=some (.int xs.length):=rfl
theorem IY(xs:List D):oV [.tup xs]=some (.int xs.length):=rfl
theorem Oz(b:Bool):iM (.bl b)=.ok b:=rfl
theorem OA(xs:List D):t8 (.lst xs)=.ok xs:=rfl
theorem OB(i:Int):Oa (.int i)=.ok (some i):=rfl
theorem OC(xs:List D)(i:Int):zu xs (.int i)=R.of (ju xs i):=rfl
theorem OD(xs:List D)(i:Int):t9 (.lst xs) (.int i)=R.of (ju xs i):=rfl
theorem OE(xs:List D)(i:Int):t9 (.tup xs) (.int i)=R.of (ju xs i):=rfl
theorem pe{α:Type}{xs:List α}(h:xs.length<=sizeLine):fit xs=.ok xs:=if_pos h
theorem big{n:Nat}(h:n<=1000000):n<=sizeLine:=le_trans h (by decide)
theorem V2{α:Type}:fit ([]:List α)=.ok []:=pe (big (by simp))
theorem V3{α:Type}(a:α):fit [a]=.ok [a]:=pe (big (by simp))
theorem V4{α:Type}(a b:α):fit [a,b]=.ok [a,b]:=pe (big (by simp))
theorem V5{α:Type}(a b c:α):fit [a,b,c]=.ok [a,b,c]:=pe (big (by simp))
theorem V6{α:Type}(a b c d:α):fit [a,b,c,d]=.ok [a,b,c,d]:=pe (big (by simp))
theorem Ry(j:Int)(h: -(2^62)<=j/\j<2^62):Mp [.int j]=.ok (nK 0 j.toNat):=if_pos h
theorem IZ(i j:Int)(h: -(2^62)<=i/\i<2^62/\ -(2^62)<=j/\j<2^62):Gw [.int i,.int j]=.ok (nK i (j-i).toNat):=if_pos h
theorem yJ(j:Int)(h:0<=j/\j<=1000000):nN [.int j]=.ok (nK 0 j.toNat):=if_pos h
theorem wW(xs:List D)(k:Int)(h: -(2^63)<=k/\k<2^63/\xs.length*k.toNat<=sizeLine):zB xs (.int k)=.ok (replicate k.toNat xs).flatten:=if_pos h
theorem Rz(xs ys:List D):zip2 [.lst xs,.lst ys]=.ok (ye xs ys):=rfl
theorem Ej(e:DE)(k:DE->R Out):aS (.ok (.nx e)) k=k e:=rfl
theorem Ek(d:D)(k:DE->R Out):aS (.ok (.rt d)) k=.ok (.rt d):=rfl
theorem Bb(d:List D)(k:DE->R Out):aS (.ok (.oF d)) k=.ok (.oF d):=rfl
theorem El(i:Nat)(e:DE):ZZ i (.nx e)=.ok (.nx (xZ i e)):=rfl
theorem ui{S:Type}{b:D->DE->R Out}(J:Nat->S->Prop)(Ev:S->DE):∀(xs:List D)(i:Nat)(s:S),J i s->(∀(j:Nat)(s:S)(x:D),J (i+j) s->xs[j]?=some x->∃s',b x (Ev s)=.ok (.nx (Ev s'))/\J (i+j+1) s')->∃s',dH b xs (Ev s)=.ok (.nx (Ev s'))/\J (i+xs.length) s'
 |[],i,s,hI,h=>⟨s,rfl,hI⟩
 |x::xs,i,s,hI,h=>by
  obtain⟨s1,h1,h2⟩:=h 0 s x hI rfl
  obtain⟨s2,h3,h4⟩:=ui J Ev xs (i+1) s1 (by simpa using h2) fun j s y hs hy=>by
   have e:i+1+j=i+(j+1):=by omega
   rw[e]at hs⊢
   exact h (j+1) s y hs (by simpa using hy)
  refine⟨s2,?_,by rw[length_cons,show i+(xs.length+1)=i+1+xs.length by omega];exact h4⟩
  unfold dH
  rw[h1]
  exact h3
theorem mO{b:D->DE->R DE}{ct:DE->R Bool}{fe:DE->R D}{e₀:DE}(g:D->D):∀(xs:List D),(∀x∈xs,∃e,b x e₀=.ok e/\ct e=.ok true/\fe e=.ok (g x))->cy b ct fe e₀ xs=.ok (xs.map g)
 |[],_=>rfl
 |x::xs,h=>by
  obtain⟨e,h1,h2,h3⟩:=h x (by simp)
  have ih:=mO g xs fun y hy=>h y (by simp[hy])
  unfold cy
  rw[h1,R.bg,h2,R.bg,if_pos rfl,h3,R.bg,ih]
  rfl
def aA(ns:List Int):List D:=ns.map .int
theorem aR(ns:List Int):(aA ns).length=ns.length:=length_map _
def Em:List D->Option (List Int)
 |[]=>some []
 |.int i::r=>(Em r).map (i::·)
 |_::_=>none
theorem wX(ns:List Int):Em (aA ns)=some ns:=by
 induction ns with
 |nil=>rfl
 |cons x r ih=>show(Em (aA r)).map (x::·)=_;rw[ih];rfl
theorem wY:∀{xs:List D}{ns:List Int},Em xs=some ns->xs=aA ns
 |[],ns,h=>by cases h;rfl
 |.int i::r,ns,h=>by
  unfold Em at h
  cases e:Em r with
  |none=>rw[e]at h;cases h
  |some ms=>rw[e]at h;cases h;rw[wY e];rfl
 |.non::r,_,h=>by cases h
 |.bl _::r,_,h=>by cases h
 |.str _::r,_,h=>by cases h
 |.lst _::r,_,h=>by cases h
 |.tup _::r,_,h=>by cases h
theorem yK(n:Nat):∀(a b:List Int),a.length=b.length->qA (uf n) (aA a) (aA b)=some (decide (a=b))
 |[],[],_=>rfl
 |[],_::_,h=>by simp at h
 |_::_,[],h=>by simp at h
 |x::a,y::b,h=>by
  have ih:=yK n a b (by simpa using h)
  show(uf n (.int x) (.int y)).bind _=_
  have e:uf n (.int x) (.int y)=some (x==y):=by cases n<;>rfl
  rw[e]
  show(qA (uf n) (aA a) (aA b)).map ((x==y)&&·)=_
  rw[ih]
  show some ((x==y)&&decide (a=b))=some (decide (x::a=y::b))
  congr 1
  rw[Bool.eq_iff_iff]
  simp
theorem Bc(n:Nat)(a b:List Int):uf (n+1) (.lst (aA a)) (.lst (aA b))=some (decide (a=b)):=by
 show(if(aA a).length=(aA b).length then qA (uf n) (aA a) (aA b)else some false)=_
 split
 ·rename_i h
  exact yK n a b (by simpa[aR]using h)
 ·rename_i h
  congr 1
  symm
  rw[decide_eq_false_iff_not]
  rintro rfl
  exact h rfl
theorem V7(a b:List Int):Au (.lst (aA a)) (.lst (aA b))=some (.bl (decide (a=b))):=by unfold Au;rw[Bc];rfl
theorem OG(a b:List Int):Av (.lst (aA a)) (.lst (aA b))=some (.bl (!decide (a=b))):=by unfold Av;rw[Bc];rfl
theorem zD(ns:List Int)(i:Int):ju (aA ns) i=(ju ns i).map .int:=by
 unfold L2.ju
 rw[aR]
 cases rq ns.length i with
 |none=>rfl
 |some j=>exact getElem?_map
theorem vY(ns:List Int)(lo hi:Option Int):cut (aA ns) lo hi=aA (cut ns lo hi):=by
 unfold cut
 rw[aR]
 simp only [aA,List.map_take,map_drop]
theorem rN(lo:Int)(n:Nat):nK lo n=aA ((range n).map fun i=>lo+(i:Nat)):=by
 unfold nK aA
 rw[map_map];rfl
def bN(i:Nat)(d:D)(env:DE):R DE:=.ok (env.set i (.val d))
def yi:List D->DE->R DE
 |[],env=>.ok env
 |_::_,_=>.bad
def jR(b:D->DE->R DE)(k:List D->DE->R DE):List D->DE->R DE
 |d::r,env=>(b d env).bind fun e'=>k r e'
 |[],_=>.bad
def bT(n:Nat)(b:List D->DE->R DE):D->DE->R DE
 |.tup ds,env=>if ds.length=n then b ds env else .bad
 |_,_=>.bad
def I0(i:Nat)(env:DE)(xs:List D)(d:D):R Out:= @ite _ (xs.length<sizeLine) (propDecidable _) (.ok (.nx (env.set i (.own (xs++[d]))))) (.bad)
def RA(i:Nat)(env:DE)(xs ys:List D):R Out:= @ite _ (xs.length+ys.length<=sizeLine) (propDecidable _) (.ok (.nx (env.set i (.own (xs++ys))))) (.bad)
def RB(i:Nat)(env:DE)(xs:List D):R Out:=if 0<xs.length then .ok (.nx (env.set i (.own xs.dropLast)))else .bad
def yj(i:Nat)(env:DE)(d:D)(xs:List D):D->R Out
 |.int j=>(match rq xs.length j with
  |some n=>.ok (.nx (env.set i (.own (xs.set n d))))
  |none=>.bad)
 |_=>.bad
def GA(h:Int->Int->Int)(i:Nat)(env:DE):D->D->R Out
 |.int u,.int w=>.ok (.nx (env.set i (.val (.int (h u w)))))
 |_,_=>.bad
section
variable{X:Cx}{E:Str->Hp->Prop}{pos:Pos}
theorem tE(i:Nat){x:Str}(hN:X.N.Nodup)(hi:X.N[i]?=some x:=by rfl)(hx:Loc X.env.scope x:=by first|exact Or.inl rfl|exact Or.inr rfl)(hf:X.fn x=true\/X.env.scope.names.lookup x=some .local:=by first|exact .inl rfl|exact .inr rfl|assumption):
  PG X (.Name x pos) (tG X.K E (bN i)):=gN i hN hi hx hf
theorem zE:DX X [] (Ob X.K E yi):=by
 have e:yi=fun ds env=>match ds with
  |[]=>.ok env
  |_=>.bad:=by funext ds env;cases ds<;>rfl
 rw[e];exact VB
theorem lG{e:Expr}{es:List Expr}{b:D->DE->R DE}{k:List D->DE->R DE}(h1:PG X e (tG X.K E b))(h2:DX X es (Ob X.K E k))(hs:(assignEach (e::es) X.env).map (·.2)=assign e X.env::(assignEach es X.env).map (·.2):=by rfl):
  DX X (e::es) (Ob X.K E (jR b k)):=by
 have e':jR b k=fun ds env=>match ds with
   |d::r=>(b d env).bind fun e'=>k r e'
   |_=>.bad:=by funext ds env;cases ds<;>rfl
 rw[e'];exact Q7 h1 h2 hs
theorem X8{es:List Expr}{kk:Nat}{b:List D->DE->R DE}(n:Nat)(hc:X.calm=true)(h:DX X es (Ob X.K E b))(hn:(assignEach es X.env).length=n:=by rfl)(hst:(assignEach es X.env).findIdx? (·.1)=none:=by rfl):
  PG X (.Tuple es kk pos) (tG X.K E (bT n b)):=by
 have e':bT n b=fun d env=>match d with
   |.tup ds=>if ds.length=n then b ds env else .bad
   |_=>.bad:=by funext d env;cases d<;>rfl
 rw[e'];exact gT hc h hn hst
theorem uj{nt:Nat}(i:Nat)(hi:i<nt:=by decide):Kp nt (bN i):=kpN i hi
theorem RD{nt:Nat}:Oh nt yi:=by
 have e:yi=fun ds env=>match ds with
  |[]=>.ok env
  |_=>.bad:=by funext ds env;cases ds<;>rfl
 rw[e];exact VW
theorem En{nt:Nat}{b:D->DE->R DE}{k:List D->DE->R DE}(hb:Kp nt b)(hk:Oh nt k):Oh nt (jR b k):=by
 have e':jR b k=fun ds env=>match ds with
   |d::r=>(b d env).bind fun e'=>k r e'
   |_=>.bad:=by funext ds env;cases ds<;>rfl
 rw[e'];exact Rv hb hk
theorem Z1{nt:Nat}{b:List D->DE->R DE}(n:Nat)(hb:Oh nt b):Kp nt (bT n b):=by
 have e':bT n b=fun d env=>match d with
   |.tup ds=>if ds.length=n then b ds env else .bad
   |_=>.bad:=by funext d env;cases d<;>rfl
 rw[e'];exact kpT hb
theorem I8(i:Nat){x:Str}{e:Expr}{f:DE->R D}{p apos aY:Pos}(he:PE X e (tD X.K E f))(hN:X.N[i]?=some x:=by rfl)(hv:wz X.env.scope x:=by first|exact Or.inl rfl|exact Or.inr (Or.inl rfl)|exact Or.inr (Or.inr rfl))(hd:(x==("__debug__":Str))=false:=by decide)
  (hcd:(x==("__classdict__":Str))=false:=by decide)
  (hbase:attributeBase (.Name x p) "append" X.env (eval (.Name x p) X.env)=eval (.Name x p) X.env:=by rfl)
  (hfew:((backTo aY (starEach [e] X.env)).all (fun x=> !x.1)&&(backToKw aY (keywordEach [] X.env)).all (fun x=>x.1.isSome)
   &&decide ([e].length+([]:List Keyword).length+(if([]:List Keyword).isEmpty then 0 else 1)<30))=true:=by rfl)
  (hline:(apos.endLine==aY.line)=true:=by rfl)(hst:starEach [e] X.env=(false,eval e X.env)::starEach [] X.env:=by rfl)(hplain:(backTo aY (starEach [] X.env)).any (·.1)=false:=by rfl)
  (hs:swapsWith (.Call (.Attribute (.Name x p) "append" apos) [e] [] aY) none pos.line X.env=pure false:=by rfl):
  PS X (.Expr (.Call (.Attribute (.Name x p) "append" apos) [e] [] aY) pos) (tS X.K E fun env=>(ownAt i env).bind fun xs=>(f env).bind fun d=>I0 i env xs d):=Zw i he hN hv hd hcd hbase hfew hline hst hplain hs
theorem V8(i:Nat){x:Str}{p apos aY:Pos}(hN:X.N[i]?=some x:=by rfl)(hv:wz X.env.scope x:=by first|exact Or.inl rfl|exact Or.inr (Or.inl rfl)|exact Or.inr (Or.inr rfl))(hd:(x==("__debug__":Str))=false:=by decide)
  (hcd:(x==("__classdict__":Str))=false:=by decide)
  (hbase:attributeBase (.Name x p) "pop" X.env (eval (.Name x p) X.env)=eval (.Name x p) X.env:=by rfl)(hline:(apos.endLine==aY.line)=true:=by rfl)
  (hs:swapsWith (.Call (.Attribute (.Name x p) "pop" apos) [] [] aY) none pos.line X.env=pure false:=by rfl):
  PS X (.Expr (.Call (.Attribute (.Name x p) "pop" apos) [] [] aY) pos) (tS X.K E fun env=>(ownAt i env).bind fun xs=>RB i env xs):=Zx i hN hv hd hcd hbase hline hs
theorem V9(i:Nat){x:Str}{e:Expr}{f:DE->R (List D)}{p apos aY:Pos}(he:PE X e (tF X.K E f))(hN:X.N[i]?=some x:=by rfl)(hv:wz X.env.scope x:=by first|exact Or.inl rfl|exact Or.inr (Or.inl rfl)|exact Or.inr (Or.inr rfl))(hd:(x==("__debug__":Str))=false:=by decide)
  (hcd:(x==("__classdict__":Str))=false:=by decide)
  (hbase:attributeBase (.Name x p) "extend" X.env (eval (.Name x p) X.env)=eval (.Name x p) X.env:=by rfl)
  (hfew:((backTo aY (starEach [e] X.env)).all (fun x=> !x.1)&&(backToKw aY (keywordEach [] X.env)).all (fun x=>x.1.isSome)
   &&decide ([e].length+([]:List Keyword).length+(if([]:List Keyword).isEmpty then 0 else 1)<30))=true:=by rfl)
  (hline:(apos.endLine==aY.line)=true:=by rfl)(hst:starEach [e] X.env=(false,eval e X.env)::starEach [] X.env:=by rfl)(hplain:(backTo aY (starEach [] X.env)).any (·.1)=false:=by rfl)
  (hs:swapsWith (.Call (.Attribute (.Name x p) "extend" apos) [e] [] aY) none pos.line X.env=pure false:=by rfl):
  PS X (.Expr (.Call (.Attribute (.Name x p) "extend" apos) [e] [] aY) pos) (tS X.K E fun env=>(ownAt i env).bind fun xs=>(f env).bind fun ys=>RA i env xs ys):=Zy i he hN hv hd hcd hbase hfew hline hst hplain hs
theorem rO(i:Nat){x:Str}{ek e:Expr}{fk f:DE->R D}{p tp:Pos}(hk:PE X ek (tB X.K E fk))(he:PE X e (tD X.K E f))(hN:X.N[i]?=some x:=by rfl)(hv:wz X.env.scope x:=by first|exact Or.inl rfl|exact Or.inr (Or.inl rfl)|exact Or.inr (Or.inr rfl))(hd:(x==("__debug__":Str))=false:=by decide)
  (hcd:(x==("__classdict__":Str))=false:=by decide)
  (ha:∀v,assign (.Subscript (.Name x p) ek tp) X.env v=(do
   let ov<-holding [v] (eval (.Name x p) X.env)
   let iv<-holding [v,ov] (eval ek X.env)
   standAt tp
   holding [v,ov,iv] (setItem ov iv v)
   release [v,ov,iv] []):=by intro _;rfl)
  (hs:swapsWithSole [.Subscript (.Name x p) ek tp] e pos.line X.env=pure false:=by rfl)(hw:swappedStores [.Subscript (.Name x p) ek tp] e X.env=pure none:=by rfl)
  (h1:(assignEach [.Subscript (.Name x p) ek tp] X.env).map (·.2)=[assign (.Subscript (.Name x p) ek tp) X.env]:=by rfl):
  PS X (.Assign [.Subscript (.Name x p) ek tp] e pos) (tS X.K E fun env=>(f env).bind fun d=>(ownAt i env).bind fun xs=>(fk env).bind fun kd=>yj i env d xs kd):=by
 have h:=Q5 (pos:=pos) i hk he hN hv hd hcd ha hs hw h1
 have e':(fun env:DE=>(f env).bind fun d=>(ownAt i env).bind fun xs=>(fk env).bind fun kd=>yj i env d xs kd)=(fun env=>(f env).bind fun d=>(ownAt i env).bind fun xs=>(fk env).bind fun kd=>match kd with
   |.int j=>(match rq xs.length j with
    |some n=>.ok (.nx (env.set i (.own (xs.set n d))))
    |none=>.bad)
   |_=>.bad):=by
  funext env
  refine congrArg (R.bind (f env)) (funext fun d=>congrArg (R.bind _) (funext fun xs=>congrArg (R.bind _) (funext fun kd=>?_)))
  cases kd<;>rfl
 rw[e'];exact h
theorem OH(i:Nat){x:Str}{e:Expr}{op:Operator}{h:Int->Int->Int}{f:DE->R D}{pos':Pos}(ho:T9 X op (UW h))(he:PE X e (tB X.K E f))(hN:X.N.Nodup)(hi:X.N[i]?=some x:=by rfl)(hx:Loc X.env.scope x:=by first|exact Or.inl rfl|exact Or.inr rfl)
  (hf:X.fn x=true\/X.env.scope.names.lookup x=some .local:=by first|exact .inl rfl|exact .inr rfl|assumption):
  PS X (.AugAssign (.Name x pos') op e pos) (tS X.K E fun env=>(bQ i env).bind fun a=>(f env).bind fun b=>GA h i env a b):=by
 have h':=Zz (pos:=pos) (pos':=pos') i ho he hN hi hx hf
 have e':(fun env:DE=>(bQ i env).bind fun a=>(f env).bind fun b=>GA h i env a b)=(fun env=>(bQ i env).bind fun a=>(f env).bind fun b=>match a,b with
   |.int u,.int w=>.ok (.nx (env.set i (.val (.int (h u w)))))
   |_,_=>.bad):=by
  funext env
  refine congrArg (R.bind _) (funext fun a=>congrArg (R.bind _) (funext fun b=>?_))
  cases a<;>cases b<;>rfl
 rw[e'];exact h'
end
def MA(d:D):R D:=match toV d with
 |some _=>.ok d
 |none=>.bad
theorem C2{x d:D}(h:MA x=.ok d):x=d/\∃z,toV d=some z:=by
 unfold MA at h
 cases e:toV x with
 |none=>rw[e]at h;cases h
 |some z=>rw[e]at h;cases h;exact⟨rfl,z,e⟩
def Uj:List D->R (List D)
 |[]=>.ok []
 |x::r=>(MA x).bind fun y=>(Uj r).bind fun ys=>.ok (y::ys)
theorem C3:∀{xs ys:List D},Uj xs=.ok ys->xs=ys/\∀d∈ys,∃z,toV d=some z
 |[],ys,h=>by cases h;exact⟨rfl,fun d hd=>nomatch hd⟩
 |x::r,ys,h=>by
  unfold Uj at h
  obtain⟨y,h1,h2⟩:=R.ee h
  obtain⟨zs,h3,h4⟩:=R.ee h2
  cases h4
  obtain⟨rfl,hz⟩:=C2 h1
  obtain⟨rfl,hs⟩:=C3 h3
  exact⟨rfl,fun d hd=>(mem_cons.mp hd).elim (fun e=>by rw[e];exact hz) (hs d)⟩
theorem OI(i:Int):MA (.int i)=.ok (.int i):=rfl
theorem OJ(i:Bool):MA (.bl i)=.ok (.bl i):=rfl
theorem OO(i:Str):MA (.str i)=.ok (.str i):=rfl
theorem OP:MA .non=.ok .non:=rfl
theorem fQ(ns:List Int):Uj (aA ns)=.ok (aA ns):=by
 induction ns with
 |nil=>rfl
 |cons x r ih=>show(MA (.int x)).bind (fun y=>(Uj (aA r)).bind fun ys=>.ok (y::ys))=_;rw[ih];rfl
def mD(n N:Nat)(b:DE->R Out)(ds:List D):R D:=if ds.length=n then((b (aG N ds)).bind aj).ne else .bad
def mS(n N:Nat)(b:DE->R Out)(ds:List D):R D:=if ds.length=n then(((b (aG N ds)).bind aj).bind MA).ne else .bad
def mF(n N:Nat)(b:DE->R Out)(ds:List D):R (List D):=if ds.length=n then((b (aG N ds)).bind ak).ne else .bad
def eg(n N:Nat)(b:DE->R Out)(ds:List D):R (List D):=if ds.length=n then(((b (aG N ds)).bind ak).bind Uj).ne else .bad
theorem R.bO {α:Type}{r:R α}{a:α}(h:r.ne=.ok a):r=.ok a:=by
 cases r with
 |ok b=>exact h
 |err c=>cases h
 |bad=>cases h
theorem R.I9 {α:Type}{r:R α}{c:Str}:r.ne≠.err c:=by
 cases r<;>intro h<;>cases h
theorem MB{n N:Nat}{b:DE->R Out}:ScD (mS n N b):=fun ds d h=>by
 unfold mS at h
 split at h
 ·obtain⟨x,_,h2⟩:=R.ee (R.bO h)
  exact(C2 h2).2
 ·cases h
theorem Z2{n N:Nat}{b:DE->R Out}:ScL (eg n N b):=fun ds d h=>by
 unfold eg at h
 split at h
 ·obtain⟨x,_,h2⟩:=R.ee (R.bO h)
  exact(C3 h2).2
 ·cases h
section
variable{P:Program}{w:World}{K:PySem.W.Frag}{mg:Str->Option Value}{base:Heap}
variable{x:Str}{st:Stmt}{f:Addr}{fd:FuncData}{N ps:List Str}{k:Nat}{b:DE->R Out}
theorem Uk(S:az N ps (ae st))(d:Df K mg x st ps f fd)
  (hb:∀(cdv:Value)(A:Around)(outer:List Env)(s:Shared)(H:Hp)(E:XK),bu k (A.deeper (envOfC x (ae st) s.heap.objs.size f cdv))->qD (qV lB P w K mg base N x (ae st) f cdv A outer s H E).Hg (bH st) (tS K EN b)):
  Ok P w K mg base (k+1) f fd ps (mD ps.length N.length b):=mkD S d hb (fun ds e h=>by
 unfold mD at h
 split at h
 ·rename_i c
  exact⟨c,R.bO h⟩
 ·cases h) fun ds c h=>by
 unfold mD at h
 split at h
 ·exact R.I9 h
 ·cases h
theorem OQ(S:az N ps (ae st))(d:Df K mg x st ps f fd)
  (hb:∀(cdv:Value)(A:Around)(outer:List Env)(s:Shared)(H:Hp)(E:XK),bu k (A.deeper (envOfC x (ae st) s.heap.objs.size f cdv))->qD (qV lB P w K mg base N x (ae st) f cdv A outer s H E).Hg (bH st) (tS K EN b)):
  Ok P w K mg base (k+1) f fd ps (mS ps.length N.length b):=mkD S d hb (fun ds e h=>by
 unfold mS at h
 split at h
 ·rename_i c
  obtain⟨y,h1,h2⟩:=R.ee (R.bO h)
  obtain⟨rfl,_⟩:=C2 h2
  exact⟨c,h1⟩
 ·cases h) fun ds c h=>by
 unfold mS at h
 split at h
 ·exact R.I9 h
 ·cases h
theorem nP(S:az N ps (ae st))(d:Df K mg x st ps f fd)
  (hb:∀(cdv:Value)(A:Around)(outer:List Env)(s:Shared)(H:Hp)(E:XK),bu k (A.deeper (envOfC x (ae st) s.heap.objs.size f cdv))->qD (qV lB P w K mg base N x (ae st) f cdv A outer s H E).Hg (bH st) (tS K EN b)):
  jD P w K mg base (k+1) f fd ps (eg ps.length N.length b):=mkF S d hb (fun ds e h=>by
 unfold eg at h
 split at h
 ·rename_i c
  obtain⟨y,h1,h2⟩:=R.ee (R.bO h)
  obtain⟨rfl,_⟩:=C3 h2
  exact⟨c,h1⟩
 ·cases h) fun ds c h=>by
 unfold eg at h
 split at h
 ·exact R.I9 h
 ·cases h
end
section
variable{d:D}{xs:List D}{r:DE}{a:Sl}{i:Nat}
theorem OS:bQ 0 (.val d::r)=.ok d:=rfl
theorem OT:bQ (i+1) (a::r)=bQ i r:=rfl
theorem OU:bf 0 (.val d::r)=.ok d:=rfl
theorem Ja:bf 0 (.own xs::r)=.ok (.lst xs):=rfl
theorem OV:bf (i+1) (a::r)=bf i r:=rfl
theorem OW:nz 0 (.val (.lst xs)::r)=.ok xs:=rfl
theorem Jb:nz 0 (.own xs::r)=.ok xs:=rfl
theorem OY:nz (i+1) (a::r)=nz i r:=rfl
theorem OZ:ownAt 0 (.own xs::r)=.ok xs:=rfl
theorem O0:ownAt (i+1) (a::r)=ownAt i r:=rfl
theorem O1:xZ 0 (.own xs::r)=.val (.lst xs)::r:=rfl
theorem O2:xZ (i+1) (a::r)=a::xZ i r:=by
 unfold xZ
 rw[List.getElem?_cons_succ]
 cases e:r[i]? with
 |none=>rfl
 |some sl=>cases sl<;>rfl
end
theorem Z3(i j:Nat)(a b:D)(env:DE):bT 2 (jR (bN i) (jR (bN j) yi)) (.tup [a,b]) env=.ok ((env.set i (.val a)).set j (.val b)):=rfl
theorem fR(i:Nat)(a:D)(env:DE):bN i a env=.ok (env.set i (.val a)):=rfl
theorem fz{ns:List Int}(h:ns.length<=1000000):fit (aA ns)=.ok (aA ns):=pe (by rw[aR];exact big h)
theorem qh(a b:List Int):aA a++aA b=aA (a++b):=(map_append ..).symm
theorem o7(n d:Nat):HT.wD n d none=d:=rfl
theorem nC(n d:Nat)(i:Int)(h:0<=i):HT.wD n d (some i)=min i.toNat n:=by
 unfold HT.wD
 dsimp only
 split<;>omega
theorem C4{α:Type}(xs:List α)(m:Int)(h:0<=m):cut xs none (some m)=xs.take m.toNat:=by
 unfold cut
 rw[o7,nC _ _ _ h,drop_zero,Nat.sub_zero]
 rcases Nat.le_total m.toNat xs.length with q|q
 ·rw[min_eq_left q]
 ·rw[Nat.min_eq_right q,take_length,take_of_length_le q]
theorem Jc{α:Type}(xs:List α)(m:Int)(h:0<=m):cut xs (some m) none=xs.drop m.toNat:=by
 unfold cut
 rw[o7,nC _ _ _ h]
 rcases Nat.le_total m.toNat xs.length with q|q
 ·rw[min_eq_left q,take_of_length_le (by rw[length_drop];exact Nat.le_refl _)]
 ·rw[Nat.min_eq_right q,sub_self,List.take_zero,List.drop_eq_nil_of_le q]
theorem yL{cells:List Int}{j:Nat}{x:D}(h:(eY (aA cells))[j]?=some x):∃c,cells[j]?=some c/\x=.tup [.int (j:Nat),.int c]:=by
 obtain⟨d,hd,rfl⟩:=ue h
 unfold aA at hd
 rw[getElem?_map]at hd
 cases q:cells[j]? with
 |none=>rw[q]at hd;cases hd
 |some c=>rw[q]at hd;cases hd;exact⟨c,rfl,rfl⟩
theorem GB(xs:List D):(eY xs).length=xs.length:=by simp[eY]
theorem vZ{i:Nat}{env:DE}{xs:List D}{d:D}(h:xs.length<1000000):I0 i env xs d=.ok (.nx (env.set i (.own (xs++[d])))):=if_pos (lt_of_lt_of_le h (by decide))
theorem MC{i:Nat}{env:DE}{xs ys:List D}(h:xs.length+ys.length<=1000000):RA i env xs ys=.ok (.nx (env.set i (.own (xs++ys)))):=if_pos (big h)
theorem MD{i:Nat}{env:DE}{xs:List D}(h:0<xs.length):RB i env xs=.ok (.nx (env.set i (.own xs.dropLast))):=if_pos h
theorem rP{i:Nat}{env:DE}{d:D}{xs:List D}{j:Int}(h:0<=j)(h2:j<xs.length):yj i env d xs (.int j)=.ok (.nx (env.set i (.own (xs.set j.toNat d)))):=by
 unfold yj
 have:rq xs.length j=some j.toNat:=by unfold L2.rq;rw[if_pos h,if_pos h2]
 simp only [this]
theorem Eo{α:Type}{xs:List α}{j:Int}(h:0<=j):ju xs j=xs[j.toNat]?:=by
 unfold L2.ju L2.rq
 rw[if_pos h]
 split
 ·rfl
 ·rename_i c
  symm
  show _=none
  rw[List.getElem?_eq_none_iff]
  omega
theorem zF(ns:List Int)(j:Nat)(x:Int):(aA ns).set j (.int x)=aA (ns.set j x):=map_set.symm
theorem ME(ns:List Int)(j:Nat):(aA ns)[j]?=(ns[j]?).map .int:=getElem?_map
theorem zG(ns:List Int):(aA ns).reverse=aA ns.reverse:=map_reverse.symm
theorem rQ(a:Int)(ns:List Int):D.int a::aA ns=aA (a::ns):=rfl
theorem Ep:([]:List D)=aA []:=rfl
theorem O3(T:String)(i:Int):Ar T (.int i)=.ok (.bl (jv (xV (.int i)) T)):=rfl
theorem O4(T:String)(i:Bool):Ar T (.bl i)=.ok (.bl (jv (xV (.bl i)) T)):=rfl
theorem O5(T:String)(i:Str):Ar T (.str i)=.ok (.bl (jv (xV (.str i)) T)):=rfl
theorem O6(T:String):Ar T .non=.ok (.bl (jv (xV .non) T)):=rfl
theorem O7(T:String)(i:List D):Ar T (.lst i)=.ok (.bl (jv (xV (.lst i)) T)):=rfl
theorem O8(T:String)(i:List D):Ar T (.tup i)=.ok (.bl (jv (xV (.tup i)) T)):=rfl
theorem aL:(type_of% @length_cons.{0})/\(type_of% @length_nil.{0})/\(type_of% @map_cons.{0,0})/\(type_of% @map_nil.{0,0})/\(type_of% @cons_append.{0})/\(type_of% @nil_append.{0})/\(type_of% @replicate_zero.{0})/\(type_of% @replicate_succ.{0})/\(type_of% @if_true.{1})/\(type_of% @ite_true.{1})/\(type_of% @false_eq_true)/\(type_of% @Bool.true_eq_false)/\(type_of% @OS)/\(type_of% @OT)/\(type_of% @OU)/\(type_of% @Ja)/\(type_of% @OV)/\(type_of% @OW)/\(type_of% @Jb)/\(type_of% @OY):=⟨@length_cons.{0},@length_nil.{0},@map_cons.{0,0},@map_nil.{0,0},@cons_append.{0},@nil_append.{0},@replicate_zero.{0},@replicate_succ.{0},@if_true.{1},@ite_true.{1},@false_eq_true,@Bool.true_eq_false,@OS,@OT,@OU,@Ja,@OV,@OW,@Jb,@OY⟩
theorem aM:(type_of% @OZ)/\(type_of% @O0)/\(type_of% @O1)/\(type_of% @O2)/\(type_of% @List.set_cons_zero.{0})/\(type_of% @List.set_cons_succ.{0})/\(type_of% @R.bg)/\(type_of% @R.lC)/\(type_of% @R.IC)/\(type_of% @Oz)/\(type_of% @OA)/\(type_of% @OB)/\(type_of% @zC)/\(type_of% @IS)/\(type_of% @IU)/\(type_of% @Om)/\(type_of% @Oo)/\(type_of% @Oq)/\(type_of% @Ot)/\(type_of% @Ou):=⟨@OZ,@O0,@O1,@O2,@List.set_cons_zero.{0},@List.set_cons_succ.{0},@R.bg,@R.lC,@R.IC,@Oz,@OA,@OB,@zC,@IS,@IU,@Om,@Oo,@Oq,@Ot,@Ou⟩
theorem aN:(type_of% @Ov)/\(type_of% @Ow)/\(type_of% @Ox)/\(type_of% @IW)/\(type_of% @Ei)/\(type_of% @IX)/\(type_of% @IY)/\(type_of% @OC)/\(type_of% @OD)/\(type_of% @OE)/\(type_of% @V2)/\(type_of% @V3)/\(type_of% @V4)/\(type_of% @V5)/\(type_of% @V6)/\(type_of% @Ej)/\(type_of% @Ek)/\(type_of% @Bb)/\(type_of% @OI)/\(type_of% @OJ):=⟨@Ov,@Ow,@Ox,@IW,@Ei,@IX,@IY,@OC,@OD,@OE,@V2,@V3,@V4,@V5,@V6,@Ej,@Ek,@Bb,@OI,@OJ⟩
theorem aO:(type_of% @OO)/\(type_of% @OP)/\(type_of% @El)/\(type_of% @O3)/\(type_of% @O4)/\(type_of% @O5)/\(type_of% @O6)/\(type_of% @O7)/\(type_of% @O8):=⟨@OO,@OP,@El,@O3,@O4,@O5,@O6,@O7,@O8⟩
section
variable{X:Cx}{E:Str->Hp->Prop}{pos:Pos}
theorem Wa{st:Stmt}:PS X st (tS X.K E fun _=>.bad):=fun pins s σ H De I ⟨g,env,os,r,m⟩=>m.elim
end
theorem MF:Ba .non .non=some (.bl false):=rfl
def Kep(fs xs:List Addr)(h h':Heap):Prop:=∀b o,h.get? b=some o->b∉xs->(b∉fs->h'.get? b=some o)/\∃sl,h'.get? b=some {o with slots:=sl}
structure Exc(h:Heap)(e T C:Addr)(fl:Value):Prop where
 at_:∃vs,h.get? e=some {cls:=.ref C,data:=.fields vs}/\vs[1]?=some (.ref T)
 ne:T≠e
 tb:∃oT ts,h.get? T=some oT/\oT.data=.fields ts/\ts[3]?=some fl
section
variable{P:Program}{w:World}{H H':Hp}{h h1 h2:Heap}{fs fs' xs:List Addr}
def Z4(P:Program)(w:World):Hh:=fun outer H s E ev s'=>∃e T C H',ev=.ref e/\Exc s'.heap e T C .none/\s.heap.get? e=none/\s.heap.get? T=none/\H' e=none/\H' T=none/\s'.os=s.os/\AllBare s'.gens/\
 Un (Cp outer) [] H H' s.heap s'.heap/\qy P w H' s'.heap/\E (.ref C) none H'
end
def Z5(K:PySem.W.Frag)(n:Str):Value:=match nsIn K mainGlobals n with
 |some (some v)=>v
 |_=>.none
section
variable{P:Program}{w:World}{K:PySem.W.Frag}{mg:Str->Option Value}{base:Heap}{N:List Str}{qual:Str}{scope:Scope}{f:Addr}{cd:Value}{A:Around}{outer:List Env}{s:Shared}{H:Hp}{E:XK}
abbrev EW(K:PySem.W.Frag)(E:XK):Str->Hp->Prop:=fun n H'=>E (Z5 K n) none H'
end
abbrev OkX(P:Program)(w:World)(K:PySem.W.Frag)(mg:Str->Option Value)(base:Heap)(k:Nat)(f:Addr)(fd:FuncData)(ps:List Str)(m:List D->R D):Prop:=cu P w K mg base (Z4 P w) k f fd ps (D9 K (Z5 K) m)
abbrev afj(P:Program)(w:World)(K:PySem.W.Frag)(mg:Str->Option Value)(base:Heap)(k:Nat)(f:Addr)(fd:FuncData)(ps:List Str)(m:List D->R (List D)):Prop:=cu P w K mg base (Z4 P w) k f fd ps (Lo K (Z5 K) m)
section
variable{P:Program}{w:World}{K:PySem.W.Frag}{mg:Str->Option Value}{base:Heap}
variable{x:Str}{st:Stmt}{f:Addr}{fd:FuncData}{N ps:List Str}{k:Nat}{b:DE->R Out}
variable(S:az N ps (ae st))(d:Df K mg x st ps f fd)
  (hb:∀(cdv:Value)(A:Around)(outer:List Env)(s:Shared)(H:Hp)(E:XK),bu k (A.deeper (envOfC x (ae st) s.heap.objs.size f cdv))->qD (qV (Z4 P w) P w K mg base N x (ae st) f cdv A outer s H E) (bH st) (tS K (EW K E) b))
include S d hb
end
abbrev hdl(X:Cx)(e:Addr):Cx:={X with A:=X.A.mark (some (.ref e)),calm:=false,xe:=fun _ _=>False}
theorem gh{K:PySem.W.Frag}{P:Addr->Prop}{H:Hp}:∀{ns:List Int}{vs:List V},IsL K P H (aA ns) vs->vs=ns.map V.int
 |[],_,h=>h
 |n::ns,_,⟨v,r,e,p,q⟩=>by
  have p':v=.int n:=p
  rw[e,p',gh q];rfl
theorem Er{K:PySem.W.Frag}{P:Addr->Prop}{H:Hp}:∀(ns:List Int),IsL K P H (aA ns) (ns.map V.int)
 |[]=>rfl
 |n::ns=>⟨_,_,rfl,rfl,Er ns⟩
def yM(xs:List D):Option D:=(Em xs).map fun ns=>.int ns.sum
def sortI(ns:List Int):List Int:=ns.mergeSort (fun a b=>decide (a<=b))
def Bd(xs:List D):R (List D):=match Em xs with
 |some ns=>if ns.length<64 then .ok (aA (sortI ns))else .bad
 |none=>.bad
def jF(xs:List D):D->R D
 |.int k=>match Em xs with
  |some ns=>if k∈ns then .ok (.int (ns.idxOf k:Nat))else .bad
  |none=>.bad
 |_=>.bad
theorem RE:bootBuiltins "sum"=some (.builtin "sum"):=by decide +kernel
theorem GC:bootBuiltins "sorted"=some (.builtin "sorted"):=by decide +kernel
theorem Be{a b:List Int}(p:a.Perm b)(o:a.Pairwise (·<=·)):a=sortI b:=by
 refine PySem.W.lks_uniq (p.trans (List.mergeSort_perm b _).symm) o ?_
 have h:=List.pairwise_mergeSort (le:=fun a b:Int=>decide (a<=b)) (fun a b c h1 h2=>by simp only [decide_eq_true_eq]at h1 h2⊢;omega) (fun a b=>by simp only [or_eq_true,decide_eq_true_eq];omega) b
 exact h.imp fun h=>by simpa using h
section
variable{X:Cx}{E:Str->Hp->Prop}{pos:Pos}
theorem Wb{p:Pos}{a:Expr}{f:DE->R (List D)}(hc:X.calm=true)(hm:X.mg "sum"=none)(ha:PE X a (tL X.K E f))(hg:Gl X "sum":=by rfl)
  (he:starEach [a] X.env=(false,eval a X.env)::starEach [] X.env:=by rfl)(hpl:(backTo pos (starEach [] X.env)).any (·.1)=false:=by rfl):PE X (.Call (.Name "sum" p) [a] [] pos) (tD X.K E fun env=>(f env).bind fun xs=>R.of (yM xs)):=by
 refine imp (jt (r:=fun xs H Q=>∃(l:Addr)(ns:List Int),xs=[.ref l]/\ck X.K H l (ns.map V.int)/\Q (.int ns.sum) H) ?_ hg hm RE (aw ha aJ he) (by decide) (by decide) he hpl) fun σ H Q ⟨g,env,os,r,m⟩=>⟨g,env,os,r,m.bind.mono fun xs _ q l vs H' s hl i=>?_⟩
 ·intro pins s σ H xs us Q I r h
  obtain⟨l,ns,rfl,hl,q⟩:=h
  obtain⟨u,rfl,ru⟩:=vals1 r
  have e:u=.ref l:=ru
  subst e
  obtain⟨its,rv,pl,hz⟩:=I.list hl
  have ia:=intsAre_of rv
  obtain⟨ys,hx⟩:=ia.allInts.items
  have MG:s.heap.IsList l (intItems ys):=hx▸pl.isList
  have hh:X.A.handled=none:=I.ok.hd hc
  have e1:ns=ys.toList.map (·.1):=by
   rw[<-nums_intItems,<-hx]
   exact(show numsOf its.toArray.toList=ns from ia.numsOf).symm
  refine sum_intListG hh MG fun h' tk t' hk=>?_
  have e2:preSum (numAt ys) ys.size=ns.sum:=by
   rw[preSum_eq,take_of_length_le (by simp),e1]
  rw[e2]
  exact⟨.int _,H,I.kept (s:=s) (t':=tk) hk,⟨_,rfl⟩,q⟩
 ·obtain⟨d,e,q2⟩:=q.of
  unfold yM at e
  cases z:Em xs with
  |none=>rw[z]at e;cases e
  |some ns=>
   rw[z]at e
   have ex:=wY z
   subst ex
   have ev:=gh i
   subst ev
   cases e
   exact⟨l,ns,rfl,hl,q2 _ H' s rfl⟩
theorem MH{p:Pos}{a:Expr}{f:DE->R (List D)}(hm:X.mg "sorted"=none)(ha:PE X a (tL X.K E f))(hg:Gl X "sorted":=by rfl)
  (he:starEach [a] X.env=(false,eval a X.env)::starEach [] X.env:=by rfl)(hpl:(backTo pos (starEach [] X.env)).any (·.1)=false:=by rfl):PE X (.Call (.Name "sorted" p) [a] [] pos) (tF X.K E fun env=>(f env).bind Bd):=by
 refine imp (jt (r:=fun xs H Q=>∃(l:Addr)(ns:List Int),xs=[.ref l]/\ck X.K H l (ns.map V.int)/\ns.length<64/\∀p,H p=none->Q (.ref p) (upd H p (.lst ((sortI ns).map V.int)))) ?_ hg hm GC (aw ha aJ he) (by decide) (by decide) he hpl) fun σ H Q ⟨g,env,os,r,m⟩=>⟨g,env,os,r,m.bind.mono fun xs _ q l vs H' s hl i=>?_⟩
 ·intro pins s σ H xs us Q I r h
  obtain⟨l,ns,rfl,hl,h64,q⟩:=h
  obtain⟨u,rfl,ru⟩:=vals1 r
  have e:u=.ref l:=ru
  subst e
  obtain⟨its,rv,pl,hz⟩:=I.list hl
  have ia:=intsAre_of rv
  refine PyProof.Rows.sorted_ints pl.isList ia (by rw[IntsAre.length ia];exact h64) fun out Ul a1 a2 a3=>?_
  have es:=Be a2 a3
  subst es
  obtain⟨n,hn⟩:=sortedAll_at s.heap its out
  refine⟨.ref _,_,I.laid (a:=s.heap.objs.size+1) (o:=.lst ((sortI ns).map V.int)) (t':=s.toks) (fun _ _=>sortedAll_old) (le_succ _) ⟨?_,out.toList,n,tW a1,?_⟩,rfl,q _ (I.hok.fresh (le_succ _))⟩
  ·rw[length_map,a2.length_eq]
   exact Nat.le_of_lt (lt_trans h64 (by decide))
  ·rw[hn]
 ·unfold Bd at q
  split at q
  ·rename_i ns z
   split at q
   ·rename_i c
    have ex:=wY z
    subst ex
    have ev:=gh i
    subst ev
    refine⟨l,ns,rfl,hl,c,fun p hp=>?_⟩
    obtain⟨b1,b2,b3,b4⟩:=CT r s hp (Er (K:=X.K) (P:=g.P os) (H:=H') (sortI ns))
    exact q p _ _ b1 b2 b3 b4
   ·exact q.elim
  ·exact q.elim
def RG(K:PySem.W.Frag):V->List V->Hp->VK->Prop:=fun x xs H Q=>∃(l:Addr)(ns:List Int)(k:Int),x=.ref l/\xs=[.int k]/\ck K H l (ns.map V.int)/\k∈ns/\Q (.int (ns.idxOf k:Nat)) H
theorem Jd:XQ X "list.index" (RG X.K):=by
 intro pins s σ H x xs v us Q I rx r h
 obtain⟨l,ns,k,rfl,rfl,hl,hk,q⟩:=h
 obtain⟨u,rfl,t,ru⟩:=vals1 r
 subst ru
 cases rx
 obtain⟨its,rv,pl,hz⟩:=I.list hl
 have ia:=intsAre_of rv
 obtain⟨o,n,h1,h2,h3,h4⟩:=pl
 cases o
 simp only at h2 h3 h4
 subst h2 h3 h4
 have hlen:=ia.length
 have hj:ns.idxOf k<ns.length:=List.idxOf_lt_length_iff.mpr hk
 have hz2:ns.length<=sizeLine:=by simpa using hz
 refine call_meets PySem.F.slot_list_index ⟨_,h1,rfl⟩ PySem.F.entry_list_index (PySem.F.args_list_index_2 _ _)
  (SeqAt.list_indexAt l its.toArray n none _ (.int k t) (isInt k) (ns.idxOf k) (by simpa[hlen]using hj) (by have h63:=qU;omega) ?_ ?_) ⟨h1,fun y hy=>(eq_isInt k t ia y (by simpa using hy)).at _ _,⟨.int _,H,I.tok _,⟨_,rfl⟩,q⟩⟩
 ·show isInt k its[ns.idxOf k]=true
  rw[isInt_at k ia _ (by omega) hj]
  simpa using getElem_idxOf hj
 ·intro j hjs hlt
  show isInt k its[j]=false
  rw[isInt_at k ia j (by simpa using hjs) (by simp at hjs;omega)]
  exact ne_of_lt_idxOf hlt _
theorem uk{o e:Expr}{apos aY:Pos}{fo:DE->R (List D)}{f:DE->R D}(ho:PE X o (tL X.K E fo))(he:PE X e (tB X.K E f))
  (hbase:attributeBase o "index" X.env (eval o X.env)=eval o X.env:=by rfl)
  (hfew:((backTo aY (starEach [e] X.env)).all (fun x=> !x.1)&&(backToKw aY (keywordEach [] X.env)).all (fun x=>x.1.isSome)
   &&decide ([e].length+([]:List Keyword).length+(if([]:List Keyword).isEmpty then 0 else 1)<30))=true:=by rfl)
  (hline:(apos.endLine==aY.line)=true:=by rfl)(hst:starEach [e] X.env=(false,eval e X.env)::starEach [] X.env:=by rfl)(hplain:(backTo aY (starEach [] X.env)).any (·.1)=false:=by rfl):
  PE X (.Call (.Attribute o "index" apos) [e] [] aY) (tD X.K E fun env=>(fo env).bind fun xs=>(f env).bind fun k=>jF xs k):=
 imp (rB plainAttrs_list PySem.F.slot_list_index PySem.F.type_list_index Jd ho (aw he aJ hst) hbase hfew hline hst hplain) fun σ H Q ⟨g,env,os,r,m⟩=>⟨g,env,os,r,m.bind.mono fun xs _ m1 l vs H1 s1 hl i=>⟨.inl ⟨rfl,vs,hl⟩,g,env,os,r.same s1,m1.bind.mono fun k _ q v H2 s2 i2=>by
  unfold jF at q
  split at q
  ·rename_i kk _
   split at q
   ·rename_i ns z
    split at q
    ·rename_i c
     have ex:=wY z
     subst ex
     have ev:=gh i
     subst ev
     have e2:v=.int kk:=i2
     subst e2
     exact⟨l,ns,kk,rfl,rfl,s2.seq hl,c,q _ H2 (s1.trans s2) rfl⟩
    ·exact q.elim
   ·exact q.elim
  ·exact q.elim⟩⟩
end
def Je(lo c:Int)(n:Nat):List D:=(range n).map fun i=>.int (lo+(i:Nat)*c)
abbrev RC(a b c:Int):Prop:= -1000000<=a/\a<=1000000/\ -1000000<=b/\b<=1000000/\c≠0/\ -1000000<=c/\c<=1000000
def Jf:List D->R (List D)
 |[.int a,.int b,.int c]=> @ite _ (RC a b c) (propDecidable _) (.ok (Je a c (Builtin.Range.rangeSize a b c).toNat)) .bad
 |_=>.bad
theorem rR{a b c:Int}(h:RC a b c):0<=Builtin.Range.rangeSize a b c/\Builtin.Range.rangeSize a b c<=2000000:=by
 unfold Builtin.Range.rangeSize
 have e:∀x y:Int,0<=x->x<2000000->1<=y->0<=x/y/\x/y<2000000:=fun x y h1 h2 h3=>⟨Int.ediv_nonneg h1 (by omega),Int.lt_of_le_of_lt (Int.ediv_le_self _ h1) h2⟩
 split
 ·split
  ·have:=e (b-a-1) c (by omega) (by omega) (by omega)
   omega
  ·omega
 ·split
  ·have:=e (a-b-1) (-c) (by omega) (by omega) (by omega)
   omega
  ·omega
theorem MI{a b c:Int}(h:RC a b c):Builtin.Range.small a b c=true:=by
 have hs:=rR h
 unfold Builtin.Range.small
 simp only [Builtin.Range.rangeFitsLong,and_eq_true,or_eq_true,decide_eq_true_eq,beq_iff_eq]
 refine⟨by omega,.inr ?_⟩
 split<;>simp only [and_eq_true,decide_eq_true_eq]<;>omega
section
variable{X:Cx}{E:Str->Hp->Prop}{pos:Pos}{tg:Expr}
theorem IsL.RH {K:PySem.W.Frag}{P:Addr->Prop}{H:Hp}{d d2 d3:D}{vs:List V}(h:IsL K P H [d,d2,d3] vs):∃v w z,vs=[v,w,z]/\Is K P H d v/\Is K P H d2 w/\Is K P H d3 z:=by
 obtain⟨v,r,rfl,p,q⟩:=h
 obtain⟨w,z,rfl,p2,p3⟩:=IsL.Mn q
 exact⟨v,w,z,rfl,p,p2,p3⟩
theorem vals3{x y z:V}{us:List Value}(r:Vals [x,y,z] us):∃u v w,us=[u,v,w]/\RelV x u/\RelV y v/\RelV z w:=by
 cases r with
 |cons p q=>
  obtain⟨v,w,rfl,p2,p3⟩:=vals2 q
  exact⟨_,v,w,rfl,p,p2,p3⟩
theorem MJ{K:PySem.W.Frag}{P:Addr->Prop}{H:Hp}{lo c:Int}{n:Nat}:IsL K P H (Je lo c n) ((range n).map fun i=>V.int (lo+(i:Nat)*c)):=by
 unfold Je
 induction (range n)with
 |nil=>rfl
 |cons x r ih=>exact⟨_,_,rfl,rfl,ih⟩
theorem wZ{acc:List Value}{lo c:Int}{n:Nat}(h1:acc.length=n)(h2:∀(j:Nat)(v:Value),acc[j]?=some v->∃t,v=.int (lo+(j:Nat)*c) t):Vals ((range n).map fun i=>V.int (lo+(i:Nat)*c)) acc:=by
 have gen:∀(l:List Value)(k:Nat),(∀(j:Nat)(v:Value),l[j]?=some v->∃t,v=.int (lo+((k+j:Nat):Int)*c) t)->Vals ((range' k l.length).map fun i=>V.int (lo+(i:Nat)*c)) l:=by
  intro l
  induction l with
  |nil=>intro k _;exact .nil
  |cons x r ih=>
   intro k hk
   rw[length_cons,range'_succ,map_cons]
   refine .cons ?_ (ih (k+1) fun j v e=>?_)
   ·obtain⟨t,e⟩:=hk 0 x (by simp)
    exact⟨t,e⟩
   ·obtain⟨t,e⟩:=hk (j+1) v (by simpa using e)
    exact⟨t,by rw[e,show k+(j+1)=k+1+j by omega]⟩
 subst h1
 rw[List.range_eq_range']
 exact gen acc 0 fun j v e=>by
  obtain⟨t,q⟩:=h2 j v e
  exact⟨t,by rw[q,Nat.zero_add]⟩
theorem MK{a b c:Expr}{p p2 qZ:Pos}{f:DE->R (List D)}(hc:X.calm=true)(IQ:X.mg "list"=none)(VY:X.mg "range"=none)(ha:PA X [a,b,c] (rF X.K E f))(VZ:Gl X "list":=by rfl)(hgr:Gl X "range":=by rfl)
  (hs:starEach [a,b,c] X.env=(false,eval a X.env)::starEach [b,c] X.env:=by rfl)(RJ:(backTo qZ (starEach [b,c] X.env)).any (·.1)=false:=by rfl)(he:starEach [.Call (.Name "range" p2) [a,b,c] [] qZ] X.env=(false,eval (.Call (.Name "range" p2) [a,b,c] [] qZ) X.env)::starEach [] X.env:=by rfl)(hpl:(backTo pos (starEach [] X.env)).any (·.1)=false:=by rfl):
  PE X (.Call (.Name "list" p) [.Call (.Name "range" p2) [a,b,c] [] qZ] [] pos) (tF X.K E fun env=>(f env).bind Jf):=by
 intro pins s σ H Q I h
 obtain⟨g,env,os,r,m⟩:=h
 refine wpAny_Call_Name_kw (gD I VZ IQ lF ?_)
 refine PyProof.Rows.callWith_type1 ?_ he hpl
 rw[he]
 refine Calls.spliced_cons ?_
 refine Call_ (gD I hgr VY wU (PyProof.Rows.callWith_type1 (cj (ha qZ pins s σ H _ I ⟨g,env,os,r,m.bind.mono fun ds _ q vs H1 s1 i1=>(⟨ds,s1,i1,q⟩:∃ds,aH H H1/\IsL X.K Tr H1 ds vs/\Good E g.H₀ (Jf ds) _)⟩) fun us s1 ⟨vs,H1,I1,r1,ds,sm,i1,q⟩=>?_) hs RJ))
 unfold Jf at q
 split at q
 ·rename_i x y z
  split at q
  ·rename_i h
   obtain⟨v1,v2,v3,rfl,k1,k2,k3⟩:=IsL.RH i1
   have X0:v1=.int x:=k1
   have k2':v2=.int y:=k2
   have k3':v3=.int z:=k3
   subst X0 k2' k3'
   obtain⟨u1,u2,u3,rfl,⟨t1,rfl⟩,⟨t2,rfl⟩,⟨t3,rfl⟩⟩:=vals3 r1
   refine call_range_3 h.2.2.2.2.1 ?_ (.inl (PyProof.noPylong_small (by omega)))
   have I2:Inv X pins σ H1 {s1 with heap:=s1.heap.push {cls:=.type "range",data:=.fields #[.int x t1,.int y t2,.int z t3]},toks:=s1.toks}:=I1.kept fun b o e=>Heap.get?_push_of_some _ e
   refine Calls.spliced_nil ?_
   have hd:X.A.handled=none:=I.ok.hd hc
   have hn2:=rR h
   have hsz:Builtin.Range.rangeSize x y z=((Builtin.Range.rangeSize x y z).toNat:Nat):=by omega
   refine call_list_range hd (IsRange.new ..) (MI h) hsz (by omega) fun h' tk oW c' hk hl hit=>?_
   obtain⟨hi1,hi2⟩:=hit
   have hv:Vals ((range (Builtin.Range.rangeSize x y z).toNat).map fun i=>V.int (x+(i:Nat)*z)) oW.toList:=wZ (by simpa using hi1) fun i v e=>hi2 i v (by simpa using e)
   have hlen:((range (Builtin.Range.rangeSize x y z).toNat).map fun i=>V.int (x+(i:Nat)*z)).length<=sizeLine:=by
    rw[length_map,length_range]
    exact le_trans (show(Builtin.Range.rangeSize x y z).toNat<=2000000 by omega) (by decide)
   refine⟨.ref _,upd H1 _ (.lst ((range (Builtin.Range.rangeSize x y z).toNat).map fun i=>V.int (x+(i:Nat)*z))),I2.laid (a:=_) hk (Nat.le_refl _) ⟨hlen,oW.toList,c',hv,by simpa using hl⟩,rfl,?_⟩
   have hn:H1 (s1.heap.push {cls:=.type "range",data:=.fields #[.int x t1,.int y t2,.int z t3]}).objs.size=none:=I2.hok.fresh (Nat.le_refl _)
   exact q _ _ _ (sm.trans (aI hn _)) (sm.free hn) ar MJ
  ·exact q.elim
 ·exact q.elim
end
def cl2(X:Cx)(scope:Scope)(C:Addr):List (Str×Addr):=cellsFrom (C+1) scope.names (Aq X.env.cells scope.names [])
def ac9(X:Cx)(scope:Scope)(N:List Str)(s:Shared)(H:Hp)(fp:List Addr)(C:Addr)(pl:List (Addr×Obj)):Cx where
 prog:=X.prog
 w:=X.w
 K:=X.K
 mg:=X.mg
 base:=X.base
 A:=X.A
 N:=N
 s₀:=s
 H₀:=H
 env:=compEnvC scope (cl2 X scope C) C X.env
 outer:=X.stack
 stack:=X.stack
 ex:=fp
 fn:=fun x=>scope.names.lookup x==some NameKind.cell
 calm:=X.calm
 pn:=pl
 xe:=fun _ _=>False
structure Wc(X:Cx)(scope:Scope)(N:List Str)(nt:Nat)(caps:List Nat):Prop where
 kind:scope.kind=.function
 apart:∀x,scope.names.lookup x=some .free->(x,NameKind.cell)∉scope.names
 names:∀y∈scope.names,y.2=.local->scope.names.lookup y.1=some .local
 free:∀y∈scope.names,y.2=.free->X.env.kindOf y.1=some .cell\/X.env.kindOf y.1=some .free
 len:N.length=nt+caps.length
 nd:N.Nodup
 caps:∀(j i:Nat),caps[j]?=some i->∃x,N[nt+j]?=some x/\X.N[i]?=some x/\scope.names.lookup x=some .free/\wz X.env.scope x
section
variable{K:PySem.W.Frag}{g:Gh}{env:DE}{σ:St}{H H':Hp}{os:List Addr}
theorem lH{α:Type}{l:List α}{i j:Nat}{x y:α}(e:(l.set i x)[j]?=some y)(h:y≠x):i≠j/\l[j]?=some y:=by
 by_cases hj:i=j
 ·subst hj
  exact(h (bp e)).elim
 ·rw[getElem?_set_ne hj]at e
  exact⟨hj,e⟩
theorem lI:∀{a b:List Addr},a.map V.ref=b.map V.ref->a=b
 |[],[],_=>rfl
 |[],_::_,h=>by cases h
 |_::_,[],h=>by cases h
 |x::a,y::b,h=>by
  injection h with h1 h2
  injection h1 with h1
  rw[h1,lI h2]
theorem Rel.RK (r:Rel K g env σ H os){l:List Addr}(s:aH H H')(hn:∀a∈l,H a=none):Ext (g.P os) (g.P (l++os)) H H':=
 ⟨fun b o p e=>⟨p.1,fun hm=>by
  rcases mem_append.mp hm with z|z
  ·rw[hn b z]at e;cases e
  ·exact p.2 z⟩,fun b o _ e=>s b o e⟩
theorem Rel.Z6 (r:Rel K g env σ H os)(s:aH H H')(i:Nat){nss:List (List Int)}{a:Addr}{as:List Addr}(hn:∀b∈a::as,H b=none)(nd:(a::as).Nodup)(hl:as.length=nss.length)(hH:H' a=some (.lst (as.map V.ref)))
  (hi:∀(k:Nat)(b:Addr)(ns:List Int),as[k]?=some b->nss[k]?=some ns->H' b=some (.lst (ns.map V.int))):
  Rel K g (env.set i (.deep nss)) (σ.set i (some (.ref a))) H' ((a::as)++os):=by
 have ap:=r.RK s hn
 have f:∀(j:Nat)(sl:Sl),(env.set i (Sl.deep nss))[j]?=some sl->sl≠.deep nss->i≠j/\env[j]?=some sl:=fun j sl q hn=>lH q hn
 have dp:Dp H' ((a::as)++os) a as nss:=⟨by simp,hH,hl,nd,fun k b ns e1 e2=>⟨mem_append_left _ (mem_cons_of_mem _ (mem_of_getElem? e1)),hi k b ns e1 e2⟩⟩
 have hnew:∀x∈a::as,x∉os:=fun x hx hm=>by
  obtain⟨o,ho⟩:=(r.new x hm).2
  rw[hn x hx]at ho
  cases ho
 refine⟨by simp[r.len],r.ext.trans s,fun j d q=>?_,fun j xs q=>?_,fun j k xs ys b q1 q2 q3 q4=>?_,fun b hb=>?_,fun j v q=>?_,?_⟩
 ·obtain⟨hj,q⟩:=f j _ q (fun z=>nomatch z)
  obtain⟨v,h1,h2⟩:=r.val j d q
  exact⟨v,by rw[getElem?_set_ne hj];exact h1,Is.ext ap _ _ h2⟩
 ·obtain⟨hj,q⟩:=f j _ q (fun z=>nomatch z)
  obtain⟨b,vs,h1,h2,h3,h4⟩:=r.own j xs q
  exact⟨b,vs,by rw[getElem?_set_ne hj];exact h1,mem_append_right _ h2,s _ _ h3,IsL.ext ap _ _ h4⟩
 ·obtain⟨hj,q1⟩:=f j _ q1 (fun z=>nomatch z)
  obtain⟨hk,q2⟩:=f k _ q2 (fun z=>nomatch z)
  rw[getElem?_set_ne hj]at q3
  rw[getElem?_set_ne hk]at q4
  exact r.inj j k xs ys b q1 q2 q3 q4
 ·rcases mem_append.mp hb with z|z
  ·exact⟨r.ext.free (hn b z),(dp.mem b z).2⟩
  ·obtain⟨h1,o,h2⟩:=r.new b z
   exact⟨h1,o,s _ _ h2⟩
 ·obtain⟨hj,q⟩:=f j _ q (fun z=>nomatch z)
  rw[getElem?_set_ne hj]
  exact r.raw j v q
 ·obtain⟨A,dd⟩:=r.Ii
  refine⟨fun j=>if j=i then a::as else A j,fun j qH q=>?_,fun j qH k xs b q1 q2 q3=>?_,fun j k qH RL hjk q1 q2 x hx=>?_⟩
  ·by_cases hj:j=i
   ·subst hj
    have z:=bp q
    cases z
    exact⟨a,as,if_pos rfl,by rw[getElem?_set_self (by rw[r.len];exact yG q)],dp⟩
   ·have q':=q
    rw[getElem?_set_ne (Ne.symm hj)]at q'
    obtain⟨b,bs,h1,h2,h3⟩:=dd.dp j qH q'
    refine⟨b,bs,by rw[if_neg hj];exact h1,by rw[getElem?_set_ne (Ne.symm hj)];exact h2,h3.to fun x hx=>?_⟩
    obtain⟨z1,o,z2⟩:=h3.mem x hx
    exact⟨mem_append_right _ z1,by rw[s x o z2,z2]⟩
  ·obtain⟨hk,q2⟩:=f k _ q2 (fun z=>nomatch z)
   rw[getElem?_set_ne hk]at q3
   show b∉if j=i then a::as else A j
   by_cases hj:j=i
   ·rw[if_pos hj]
    obtain⟨c,vs,h1,h2,_⟩:=r.own k xs q2
    rw[q3]at h1
    cases h1
    exact fun z=>hnew b z h2
   ·rw[if_neg hj]
    rw[getElem?_set_ne (Ne.symm hj)]at q1
    exact dd.ow j qH k xs b q1 q2 q3
  ·show x∉if k=i then a::as else A k
   have Eg:x∈if j=i then a::as else A j:=hx
   by_cases hj:j=i
   ·have hk:k≠i:=fun z=>hjk (by rw[hj,z])
    rw[if_pos hj]at Eg
    rw[if_neg hk]
    rw[getElem?_set_ne (Ne.symm hk)]at q2
    exact fun z=>hnew x Eg (dd.mem q2 x z).1
   ·rw[if_neg hj]at Eg
    rw[getElem?_set_ne (Ne.symm hj)]at q1
    by_cases hk:k=i
    ·rw[if_pos hk]
     exact fun z=>hnew x z (dd.mem q1 x Eg).1
    ·rw[if_neg hk]
     rw[getElem?_set_ne (Ne.symm hk)]at q2
     exact dd.dj j k qH RL hjk q1 q2 x Eg
theorem Rel.Z7 (r:Rel K g env σ H os){i:Nat}{nss:List (List Int)}(e:env[i]?=some (.deep nss)){a:Addr}{as:List Addr}(hσ:σ[i]?=some (some (.ref a)))(ha:H a=some (.lst (as.map V.ref))){k:Nat}{b:Addr}{ns:List Int}(hk:as[k]?=some b)(hns:k<nss.length)(Ul:List Int):
  b∈os/\Rel K g (env.set i (.deep (nss.set k Ul))) σ (upd H b (.lst (Ul.map V.int))) os:=by
 obtain⟨A,dd⟩:=r.Ii
 obtain⟨a0,xW,hA,h1,h3⟩:=dd.dp i nss e
 rw[hσ]at h1
 cases h1
 have has:xW=as:=by
  have z:=h3.ha
  rw[ha]at z
  have z2:as.map V.ref=xW.map V.ref:=by injection z with z;injection z
  exact(lI z2).symm
 subst has
 have q8:b∈os:=(h3.it k b nss[k] hk (getElem?_eq_getElem hns)).1
 have Wd:b∈A i:=by rw[hA];exact mem_cons_of_mem _ (mem_of_getElem? hk)
 refine⟨q8,?_⟩
 have ex:Ext (g.P os) (g.P os) H (upd H b (.lst (Ul.map V.int))):=⟨fun _ _ p _=>p,fun c o p q=>by rw[ah (fun z=>p.2 (by rw[z];exact q8))];exact q⟩
 have f:∀(j:Nat)(sl:Sl),(env.set i (Sl.deep (nss.set k Ul)))[j]?=some sl->sl≠.deep (nss.set k Ul)->i≠j/\env[j]?=some sl:=fun j sl q hn=>lH q hn
 have Z8:b≠a:=fun z=>(nodup_cons.mp h3.nd).1 (by rw[<-z];exact mem_of_getElem? hk)
 refine⟨by simp[r.len],fun c o q=>?_,fun j d q=>?_,fun j xs q=>?_,fun j k xs ys c q1 q2 q3 q4=>?_,fun c hc=>?_,fun j v q=>?_,?_⟩
 ·rw[ah (fun z=>by rw[z,(r.new b q8).1]at q;cases q)]
  exact r.ext c o q
 ·obtain⟨hj,q⟩:=f j _ q (fun z=>nomatch z)
  obtain⟨v,h1,h2⟩:=r.val j d q
  exact⟨v,h1,Is.ext ex _ _ h2⟩
 ·obtain⟨hj,q⟩:=f j _ q (fun z=>nomatch z)
  obtain⟨c,vs,h1,h2,We,h4⟩:=r.own j xs q
  have Z9:c≠b:=fun z=>dd.ow i nss j xs c e q h1 (by rw[z];exact Wd)
  exact⟨c,vs,h1,h2,by rw[ah Z9];exact We,IsL.ext ex _ _ h4⟩
 ·obtain⟨hj,q1⟩:=f j _ q1 (fun z=>nomatch z)
  obtain⟨hk,q2⟩:=f k _ q2 (fun z=>nomatch z)
  exact r.inj j k xs ys c q1 q2 q3 q4
 ·obtain⟨z1,o,z2⟩:=r.new c hc
  refine⟨z1,?_⟩
  by_cases z:c=b
  ·exact⟨_,by rw[z];exact ar⟩
  ·exact⟨o,by rw[ah z];exact z2⟩
 ·obtain⟨hj,q⟩:=f j _ q (fun z=>nomatch z)
  exact r.raw j v q
 ·have h3k:∀(m:Nat),xW[m]?=some b->m=k:=fun m hm=>by
   have aaa:=(nodup_cons.mp h3.nd).2
   have hm1:=(List.getElem?_eq_some_iff.mp hm).1
   have hk1:=(List.getElem?_eq_some_iff.mp hk).1
   exact(List.getElem_inj aaa).mp (by rw[(List.getElem?_eq_some_iff.mp hm).2,(List.getElem?_eq_some_iff.mp hk).2])
  refine⟨A,fun j qH q=>?_,fun j qH m xs c q1 q2 q3=>?_,fun j m qH RL Um q1 q2 x hx=>?_⟩
  ·by_cases hj:i=j
   ·subst hj
    have z:=bp q
    cases z
    refine⟨a,xW,hA,hσ,h3.ma,by rw[ah (Ne.symm Z8)];exact h3.ha,by rw[length_set];exact h3.len,h3.nd,fun m c ms e1 e2=>?_⟩
    by_cases hm:c=b
    ·subst hm
     have hmk:=h3k m e1
     subst hmk
     rw[getElem?_set_self hns]at e2
     cases e2
     exact⟨q8,ar⟩
    ·have hmk:k≠m:=fun z=>hm (by rw[z]at hk;rw[hk]at e1;cases e1;rfl)
     rw[getElem?_set_ne hmk]at e2
     rw[ah hm]
     exact h3.it m c ms e1 e2
   ·rw[getElem?_set_ne hj]at q
    obtain⟨c,cs,z1,z2,z3⟩:=dd.dp j qH q
    refine⟨c,cs,z1,z2,z3.to fun x hx=>?_⟩
    have hxb:x≠b:=fun z=>dd.dj i j nss qH hj e q b Wd (by rw[z1,<-z];exact hx)
    exact⟨(z3.mem x hx).1,ah hxb⟩
  ·obtain⟨_,q2⟩:=f m _ q2 (fun z=>nomatch z)
   by_cases hj:i=j
   ·subst hj
    exact dd.ow i nss m xs c e q2 q3
   ·rw[getElem?_set_ne hj]at q1
    exact dd.ow j qH m xs c q1 q2 q3
  ·have p1:∃ms,env[j]?=some (.deep ms):=by
    by_cases hj:i=j
    ·subst hj;exact⟨nss,e⟩
    ·rw[getElem?_set_ne hj]at q1;exact⟨qH,q1⟩
   have p2:∃ms,env[m]?=some (.deep ms):=by
    by_cases hj:i=m
    ·subst hj;exact⟨nss,e⟩
    ·rw[getElem?_set_ne hj]at q2;exact⟨RL,q2⟩
   obtain⟨m1,p1⟩:=p1
   obtain⟨m2,p2⟩:=p2
   exact dd.dj j m m1 m2 Um p1 p2 x hx
end
section
variable{X:Cx}{E:Str->Hp->Prop}{pos:Pos}
def tFr(K:PySem.W.Frag)(E:Str->Hp->Prop)(f:DE->R (List (List Int))):TA:=fun σ H Q=>∃g env os,Rel K g env σ H os/\Good E g.H₀ (f env) fun nss=>∀(as:List Addr)(H':Hp),aH H H'->(∀b∈as,H b=none)->as.Nodup->as.length=nss.length->
 (∀(k:Nat)(b:Addr)(ns:List Int),as[k]?=some b->nss[k]?=some ns->H' b=some (.lst (ns.map V.int)))->Q (as.map V.ref) H'
theorem O9:PA X [] (tFr X.K E fun _=>.ok []):=Ik aJ fun σ H Q ⟨g,env,os,r,m⟩=>m [] H (aH.refl H) (fun _ z=>nomatch z) .nil rfl (fun _ _ _ z=>by simp at z)
theorem Pb(i:Nat){x:Str}{es:List Expr}{f:DE->R (List (List Int))}{pos' p:Pos}(he:PA X es (tFr X.K E f))(hN:X.N.Nodup)(hi:X.N[i]?=some x:=by rfl)(hx:Loc X.env.scope x:=by first|exact Or.inl rfl|exact Or.inr rfl)(hs:swapsWith (.List es p) (some (.Name x pos')) pos.line X.env=pure false:=by rfl)
  (hf:X.fn x=true\/X.env.scope.names.lookup x=some .local:=by first|exact .inl rfl|exact .inr rfl|assumption):PS X (.Assign [.Name x pos'] (.List es p) pos) (tS X.K E fun env=>(f env).bind fun nss=>(fit nss).bind fun nss=>.ok (.nx (env.set i (.deep nss)))):=
 oQ (cY hN hi hx (tV he) hs hf) fun De σ H ⟨g,env,os,r,m⟩=>⟨g,env,os,r,m.bind.mono fun nss _ m1 as H1 s1 hn nd hl hc=>by
  obtain⟨hz,q⟩:=m1.bind.fit
  refine⟨by rw[length_map,hl];exact hz,fun p hp=>?_⟩
  have aac:p∉as:=fun z=>by
   obtain⟨k,hk,rfl⟩:=getElem_of_mem z
   have:=hc k _ _ (getElem?_eq_getElem hk) (getElem?_eq_getElem (by rw[<-hl];exact hk))
   rw[hp]at this
   cases this
  have sp:=aI hp (.lst (as.map V.ref))
  have hnew:∀b∈p::as,H b=none:=fun b hb=>by
   rcases mem_cons.mp hb with rfl|hb
   ·exact s1.free hp
   ·exact hn b hb
  have s2:=s1.trans sp
  refine q _ _ ((p::as)++os) (r.Z6 s2 i hnew (nodup_cons.mpr ⟨aac,nd⟩) hl ar fun k b ns e1 e2=>sp _ _ (hc k b ns e1 e2)) ⟨fun b hb=>?_,fun b hb=>s2.free hb,fun b o _ hb=>s2 b o hb⟩
  rcases mem_append.mp hb with z|z
  ·exact .inr (hnew b z)
  ·exact .inl z⟩
end
def Jg:Out->R (List (List Int))
 |.AU nss=>.ok nss
 |_=>.bad
def spT(K:PySem.W.Frag)(m:List D->R (List (List Int))):Sp:=fun vs H Q E=>∃P ds,IsL K P H ds vs/\(match m ds with
 |.ok nss=>∀(a:Addr)(as:List Addr)(H':Hp),aH H H'->Q1 H H' a as nss->Q (.ref a) H'
 |_=>False)
def mT(n N:Nat)(b:DE->R Out)(ds:List D):R (List (List Int)):=if ds.length=n then((b (aG N ds)).bind Jg).ne else .bad
abbrev Uo(P:Program)(w:World)(K:PySem.W.Frag)(mg:Str->Option Value)(base:Heap)(k:Nat)(f:Addr)(fd:FuncData)(ps:List Str)(m:List D->R (List (List Int))):Prop:=cu P w K mg base lB k f fd ps (spT K m)
section
variable{P:Program}{w:World}{K:PySem.W.Frag}{mg:Str->Option Value}{base:Heap}
theorem okT{x:Str}{st:Stmt}{f:Addr}{fd:FuncData}{N ps:List Str}{k:Nat}{b:DE->R Out}(S:az N ps (ae st))(d:Df K mg x st ps f fd)
  (hb:∀(cdv:Value)(A:Around)(outer:List Env)(s:Shared)(H:Hp)(E:XK),bu k (A.deeper (envOfC x (ae st) s.heap.objs.size f cdv))->qD (qV lB P w K mg base N x (ae st) f cdv A outer s H E).Hg (bH st) (tS K EN b)):
  Uo P w K mg base (k+1) f fd ps (mT ps.length N.length b):=by
 refine d.F.ok S (fun vs H Q E h=>?_) (fun cdv A outer s H vs Q E hr h=>?_)
 ·obtain⟨Pa,ds,i,h⟩:=h
  cases e:mT ps.length N.length b ds with
  |ok nss=>
   rw[i.length]
   unfold mT at e
   split at e
   ·assumption
   ·cases e
  |err c=>rw[e]at h;exact h.elim
  |bad=>rw[e]at h;exact h.elim
 ·obtain⟨Pa,ds,i,h⟩:=h
  refine⟨_,hb cdv A outer s H E hr,⟨⟨Pa,H⟩,aG N.length ds,[],uc i,?_⟩⟩
  cases e:mT ps.length N.length b ds with
  |err c=>rw[e]at h;exact h.elim
  |bad=>rw[e]at h;exact h.elim
  |ok nss=>
   rw[e]at h
   unfold mT at e
   split at e
   ·have q:=R.bO e
    cases eb:b (aG N.length ds)with
    |bad=>rw[eb]at q;cases q
    |err c=>rw[eb]at q;cases q
    |ok o=>
     rw[eb]at q
     cases o with
     |AU qH=>
      cases q
      exact fun a as H' s' nd=>h a as H' s' nd
     |Hm _=>cases q
     |Gr _=>cases q
     |Hl _=>cases q
     |oF _=>cases q
     |rt _=>cases q
     |nx _=>cases q
     |bk _=>cases q
     |ct _=>cases q
   ·cases e
end
section
variable{X:Cx}{E:Str->Hp->Prop}{pos:Pos}
def tDp(K:PySem.W.Frag)(E:Str->Hp->Prop)(f:DE->R (List (List Int))):TE:=fun σ H Q=>∃g env os,Rel K g env σ H os/\Good E g.H₀ (f env) fun nss=>∀(a:Addr)(as:List Addr)(H':Hp),aH H H'->Q1 H H' a as nss->Q (.ref a) H'
theorem fT1{x:Str}{st:Stmt}{ps:List Str}{fa:Addr}{fd:FuncData}{k:Nat}{p:Pos}{e:Expr}{es:List Expr}{f:DE->R (List D)}{m:List D->R (List (List Int))}(d:Df X.K X.mg x st ps fa fd)(F:Uo X.prog X.w X.K X.mg X.base k fa fd ps m)(hr:bu k X.A)
  (ha:PA X (e::es) (rF X.K E f))(hg:Gl X x:=by rfl)(hdb:(x==("__debug__":Str))=false:=by decide)(he:starEach (e::es) X.env=(false,eval e X.env)::starEach es X.env:=by rfl)(hpl:(backTo pos (starEach es X.env)).any (·.1)=false:=by rfl):
  PE X (.Call (.Name x p) (e::es) [] pos) (tDp X.K E fun env=>((f env).bind m).ne):=
 imp (dX (E:=fun _ _ _=>False) F hr hg d.m d.F.kp d.b .nil lD ha hdb he hpl) fun σ H Q ⟨g,env,os,r,q⟩=>⟨g,env,os,r,by
  dsimp only at q
  cases ef:f env with
  |bad=>rw[ef]at q;exact q.elim
  |err c=>rw[ef]at q;exact q.elim
  |ok ds=>
   rw[ef]at q
   cases em:m ds with
   |bad=>rw[show((R.ok ds).bind m)=m ds from rfl,em]at q;exact q.elim
   |err c=>rw[show((R.ok ds).bind m)=m ds from rfl,em]at q;exact q.elim
   |ok nss=>
    rw[show((R.ok ds).bind m)=m ds from rfl,em]at q
    intro vs H1 s1 i1
    show spT X.K m (vs++[]) H1 Q _
    rw[append_nil]
    refine⟨_,ds,i1,?_⟩
    rw[em]
    exact fun a as H' s' nd=>q a as H' (s1.trans s') (nd.back s1)⟩
def gF(i:Nat)(env:DE):R (List (List Int)):=match env[i]? with
 |some (.deep (.ls nss))=>.ok nss
 |_=>.bad
theorem Good.deep {H₀:Hp}{i:Nat}{env:DE}{p:List (List Int)->Prop}(h:Good E H₀ (gF i env) p):∃nss:List (List Int),env[i]?=some (.deep nss)/\p nss:=by
 unfold gF at h
 split at h
 ·rename_i nss e
  exact⟨nss,e,h⟩
 ·exact h.elim
theorem Pd(i:Nat){x:Str}{p:Pos}(hN:X.N[i]?=some x:=by rfl)(hv:wz X.env.scope x:=by first|exact Or.inl rfl|exact Or.inr (Or.inl rfl)|exact Or.inr (Or.inr rfl))(hd:(x==("__debug__":Str))=false:=by decide)
  (hcd:(x==("__classdict__":Str))=false:=by decide):PS X (.Return (some (.Name x p)) pos) (tS X.K E fun env=>(gF i env).bind fun nss=>.ok (.AU nss)):=
 oQ (lW (gW hN hv hd hcd)) fun De σ H ⟨g,env,os,r,m⟩=>by
  obtain⟨nss,e,q⟩:=m.bind.deep
  obtain⟨A,dd⟩:=r.Ii
  obtain⟨a,as,hA,h1,h3⟩:=dd.dp i nss e
  exact⟨.ref a,h1,(show dZ X.K g H os De (.AU nss)from q) a as H r.ext ⟨fun b hb=>(r.new b (h3.mem b hb).1).1,h3.nd,h3.len,h3.ha,fun k b ns e1 e2=>(h3.it k b ns e1 e2).2⟩⟩
end
section
variable{X:Cx}{E:Str->Hp->Prop}{pos:Pos}
theorem Rel.zH {K:PySem.W.Frag}{g:Gh}{env:DE}{σ:St}{H:Hp}{os:List Addr}(r:Rel K g env σ H os){ix:Nat}{nss:List (List Int)}(e:env[ix]?=some (.deep nss)):∃(a:Addr)(as:List Addr),σ[ix]?=some (some (.ref a))/\H a=some (.lst (as.map V.ref))/\as.length=nss.length/\∀(k:Nat)(ns:List Int),nss[k]?=some ns->∃b,as[k]?=some b/\H b=some (.lst (ns.map V.int)):=by
 obtain⟨A,dd⟩:=r.Ii
 obtain⟨a,as,_,h1,h3⟩:=dd.dp ix nss e
 refine⟨a,as,h1,h3.ha,h3.len,fun k ns hk=>?_⟩
 have hl:k<as.length:=by rw[h3.len];exact(List.getElem?_eq_some_iff.mp hk).1
 exact⟨as[k],getElem?_eq_getElem hl,(h3.it k _ ns (getElem?_eq_getElem hl) hk).2⟩
def Bf(nss:List (List Int)):D->R (Nat×List Int)
 |.int i=>(match rq nss.length i with
  |some k=>(match nss[k]? with
   |some ns=>.ok (k,ns)
   |none=>.bad)
  |none=>.bad)
 |_=>.bad
theorem Good.Bf {H₀:Hp}{nss:List (List Int)}{a:D}{p:Nat×List Int->Prop}(h:Good E H₀ (Bf nss a) p):∃i k ns,a=.int i/\rq nss.length i=some k/\nss[k]?=some ns/\p (k,ns):=by
 unfold DL.Bf at h
 split at h
 ·rename_i i
  split at h
  ·rename_i k hk
   split at h
   ·rename_i ns hns
    exact⟨i,k,ns,rfl,hk,hns,h⟩
   ·exact h.elim
  ·exact h.elim
 ·exact h.elim
theorem RM{α:Type}{xs:List α}{i:Int}{k:Nat}{x:α}(h:rq xs.length i=some k)(hx:xs[k]?=some x):ju xs i=some x:=by
 unfold L2.ju
 rw[h]
 exact hx
end
section
variable{K:PySem.W.Frag}{g:Gh}{env:DE}{σ:St}{H H1:Hp}{os:List Addr}
theorem Rel.Wf (r:Rel K g env σ H os)(s:aH H H1){i:Nat}{nss:List (List Int)}(e:env[i]?=some (.deep nss)){a b:Addr}{as:List Addr}{ns:List Int}(hσ:σ[i]?=some (some (.ref a)))(ha:H a=some (.lst (as.map V.ref)))(hn:H b=none)(hb:H1 b=some (.lst (ns.map V.int))):
  a∈os/\Rel K g (env.set i (.deep (nss++[ns]))) σ (upd H1 a (.lst (as.map V.ref++[.ref b]))) (b::os):=by
 obtain⟨A,dd⟩:=r.Ii
 obtain⟨a0,xW,hA,h1,h3⟩:=dd.dp i nss e
 rw[hσ]at h1
 cases h1
 have has:xW=as:=by
  have z:=h3.ha
  rw[ha]at z
  have z2:as.map V.ref=xW.map V.ref:=by injection z with z;injection z
  exact(lI z2).symm
 subst has
 have q8:a∈os:=h3.ma
 have hnew:b∉os:=fun hm=>by
  obtain⟨o,ho⟩:=(r.new b hm).2
  rw[hn]at ho
  cases ho
 have hab:b≠a:=fun z=>hnew (by rw[z];exact q8)
 refine⟨q8,?_⟩
 have ex:Ext (g.P os) (g.P (b::os)) H (upd H1 a (.lst (xW.map V.ref++[.ref b]))):=⟨fun c o p q=>⟨p.1,fun hm=>by
  rcases mem_cons.mp hm with z|z
  ·rw[z,hn]at q;cases q
  ·exact p.2 z⟩,fun c o p q=>by rw[ah (fun z=>p.2 (by rw[z];exact q8))];exact s c o q⟩
 have f:∀(j:Nat)(sl:Sl),(env.set i (Sl.deep (nss++[ns])))[j]?=some sl->sl≠.deep (nss++[ns])->i≠j/\env[j]?=some sl:=fun j sl q hn=>lH q hn
 have keep:∀c∈os,c≠a->∀o,H c=some o->(upd H1 a (.lst (xW.map V.ref++[.ref b]))) c=some o:=fun c _ hc o ho=>by rw[ah hc];exact s c o ho
 refine⟨by simp[r.len],fun c o q=>?_,fun j d q=>?_,fun j xs q=>?_,fun j k xs ys c q1 q2 q3 q4=>?_,fun c hc=>?_,fun j v q=>?_,?_⟩
 ·rw[ah (fun z=>by rw[z,(r.new a q8).1]at q;cases q)]
  exact s _ _ (r.ext c o q)
 ·obtain⟨hj,q⟩:=f j _ q (fun z=>nomatch z)
  obtain⟨v,h1,h2⟩:=r.val j d q
  exact⟨v,h1,Is.ext ex _ _ h2⟩
 ·obtain⟨hj,q⟩:=f j _ q (fun z=>nomatch z)
  obtain⟨c,vs,h1,h2,We,h4⟩:=r.own j xs q
  have hca:c≠a:=fun z=>dd.ow i nss j xs c e q h1 (by rw[z,hA];exact mem_cons_self)
  exact⟨c,vs,h1,mem_cons_of_mem _ h2,keep c h2 hca _ We,IsL.ext ex _ _ h4⟩
 ·obtain⟨hj,q1⟩:=f j _ q1 (fun z=>nomatch z)
  obtain⟨hk,q2⟩:=f k _ q2 (fun z=>nomatch z)
  exact r.inj j k xs ys c q1 q2 q3 q4
 ·rcases mem_cons.mp hc with z|z
  ·rw[z]
   exact⟨r.ext.free hn,_,by rw[ah hab];exact hb⟩
  ·obtain⟨z1,o,z2⟩:=r.new c z
   refine⟨z1,?_⟩
   by_cases w:c=a
   ·exact⟨_,by rw[w];exact ar⟩
   ·exact⟨o,keep c z w o z2⟩
 ·obtain⟨hj,q⟩:=f j _ q (fun z=>nomatch z)
  exact r.raw j v q
 ·have sub:∀(j':Nat)(y:Addr),(y∈if j'=i then a::(xW++[b])else A j')->y∈A j'\/(j'=i/\y=b):=fun j' y hy=>by
   by_cases hj:j'=i
   ·rw[if_pos hj]at hy
    rw[hj,hA]
    rcases mem_cons.mp hy with w|w
    ·rw[w];exact .inl mem_cons_self
    ·rcases mem_append.mp w with w|w
     ·exact .inl (mem_cons_of_mem _ w)
     ·exact .inr ⟨rfl,by simpa using w⟩
   ·rw[if_neg hj]at hy
    exact .inl hy
  have p1:∀(j:Nat)(ms:Ct),(env.set i (Sl.deep (nss++[ns])))[j]?=some (.deep ms)->∃RN,env[j]?=some (.deep RN):=fun j ms q=>by
   by_cases hj:i=j
   ·subst hj;exact⟨nss,e⟩
   ·rw[getElem?_set_ne hj]at q;exact⟨ms,q⟩
  refine⟨fun j=>if j=i then a::(xW++[b])else A j,fun j qH q=>?_,fun j qH m xs c q1 q2 q3 hx=>?_,fun j m qH RL Um q1 q2 x hx VC=>?_⟩
  ·by_cases hj:j=i
   ·have q':=q
    rw[hj]at q'
    have z:=bp q'
    cases z
    refine⟨a,xW++[b],if_pos hj,by rw[hj];exact hσ,mem_cons_of_mem _ h3.ma,by rw[map_append];exact ar,by rw[length_append,length_append,h3.len];rfl,?_,fun m c ms e1 e2=>?_⟩
    ·have aad:b∉xW:=fun z=>hnew (h3.mem b (mem_cons_of_mem _ z)).1
     have nd:=nodup_cons.mp h3.nd
     refine nodup_cons.mpr ⟨fun z=>?_,?_⟩
     ·rcases mem_append.mp z with w|w
      ·exact nd.1 w
      ·have:a=b:=by simpa using w
       exact hab this.symm
     ·rw[List.nodup_append]
      refine⟨nd.2,by simp,fun x hx y hy=>?_⟩
      have Ua:y=b:=by simpa using hy
      rw[Ua]
      exact fun z=>aad (by rw[<-z];exact hx)
    ·by_cases hm:m<xW.length
     ·rw[getElem?_append_left hm]at e1
      rw[getElem?_append_left (by rw[<-h3.len];exact hm)]at e2
      obtain⟨w1,w2⟩:=h3.it m c ms e1 e2
      have hca:c≠a:=fun z=>(nodup_cons.mp h3.nd).1 (by rw[<-z];exact mem_of_getElem? e1)
      exact⟨mem_cons_of_mem _ w1,keep c w1 hca _ w2⟩
     ·have hk2:m=xW.length:=by
       have:=(List.getElem?_eq_some_iff.mp e1).1
       rw[length_append]at this
       simp at this
       omega
      subst hk2
      have z1':b=c:=by simpa using e1
      rw[h3.len]at e2
      have z2':ns=ms:=by simpa using e2
      subst z1' z2'
      exact⟨mem_cons_self,by rw[ah hab];exact hb⟩
   ·rw[getElem?_set_ne (Ne.symm hj)]at q
    obtain⟨c,cs,z1,z2,z3⟩:=dd.dp j qH q
    refine⟨c,cs,by rw[if_neg hj];exact z1,z2,z3.to fun x hx=>?_⟩
    have hxa:x≠a:=fun z=>dd.dj i j nss qH (Ne.symm hj) e q a (by rw[hA];exact mem_cons_self) (by rw[z1,<-z];exact hx)
    obtain⟨w1,o,w2⟩:=z3.mem x hx
    exact⟨mem_cons_of_mem _ w1,by rw[keep x w1 hxa o w2,w2]⟩
  ·have X9:=(f m _ q2 (fun z=>nomatch z)).2
   obtain⟨RN,p⟩:=p1 j qH q1
   rcases sub j c hx with w|⟨_,w⟩
   ·exact dd.ow j RN m xs c p X9 q3 w
   ·obtain⟨c',vs,w1,w2,_⟩:=r.own m xs X9
    rw[q3]at w1
    cases w1
    exact hnew (by rw[<-w];exact w2)
  ·obtain⟨m1,w1⟩:=p1 j qH q1
   obtain⟨m2,w2⟩:=p1 m RL q2
   rcases sub j x hx with u|⟨u1,u⟩<;>rcases sub m x VC with v|⟨v1,v⟩
   ·exact dd.dj j m m1 m2 Um w1 w2 x u v
   ·exact hnew (by rw[<-v];exact(dd.mem w1 x u).1)
   ·exact hnew (by rw[<-u];exact(dd.mem w2 x v).1)
   ·exact Um (by rw[u1,v1])
end
section
variable{X:Cx}{E:Str->Hp->Prop}{pos:Pos}
def C5(ix:Nat)(env:DE)(nss:List (List Int))(kn:Nat×List Int):D->R Out
 |.int v=> @ite _ (kn.2.length<sizeLine) (propDecidable _) (.ok (.nx (env.set ix (.deep (nss.set kn.1 (kn.2++[v])))))) .bad
 |_=>.bad
theorem Good.C5 {H₀:Hp}{ix:Nat}{env:DE}{nss:List (List Int)}{kn:Nat×List Int}{d:D}{p:Out->Prop}(h:Good E H₀ (C5 ix env nss kn d) p):∃v,d=.int v/\kn.2.length<sizeLine/\p (.nx (env.set ix (.deep (nss.set kn.1 (kn.2++[v]))))):=by
 unfold DL.C5 at h
 split at h
 ·split at h
  ·rename_i c
   exact⟨_,rfl,c,h⟩
  ·exact h.elim
 ·exact h.elim
theorem RO(ix:Nat){x:Str}{ei e:Expr}{fi f:DE->R D}{p Wg apos aY:Pos}(hi:PE X ei (tB X.K E fi))(he:PE X e (tB X.K E f))(hN:X.N[ix]?=some x:=by rfl)(hv:wz X.env.scope x:=by first|exact Or.inl rfl|exact Or.inr (Or.inl rfl)|exact Or.inr (Or.inr rfl))(hd:(x==("__debug__":Str))=false:=by decide)
  (hcd:(x==("__classdict__":Str))=false:=by decide)(hpi:vP ei:=by exact fun _ _=>rfl)
  (hbase:attributeBase (.Subscript (.Name x p) ei Wg) "append" X.env (eval (.Subscript (.Name x p) ei Wg) X.env)=eval (.Subscript (.Name x p) ei Wg) X.env:=by rfl)
  (hfew:((backTo aY (starEach [e] X.env)).all (fun x=> !x.1)&&(backToKw aY (keywordEach [] X.env)).all (fun x=>x.1.isSome)
   &&decide ([e].length+([]:List Keyword).length+(if([]:List Keyword).isEmpty then 0 else 1)<30))=true:=by rfl)
  (hline:(apos.endLine==aY.line)=true:=by rfl)(hst:starEach [e] X.env=(false,eval e X.env)::starEach [] X.env:=by rfl)(hplain:(backTo aY (starEach [] X.env)).any (·.1)=false:=by rfl)
  (hs:swapsWith (.Call (.Attribute (.Subscript (.Name x p) ei Wg) "append" apos) [e] [] aY) none pos.line X.env=pure false:=by rfl):
  PS X (.Expr (.Call (.Attribute (.Subscript (.Name x p) ei Wg) "append" apos) [e] [] aY) pos) (tS X.K E fun env=>(gF ix env).bind fun nss=>(fi env).bind fun a=>(Bf nss a).bind fun kn=>(f env).bind fun d=>C5 ix env nss kn d):=
 oQ (gf (rB plainAttrs_list PySem.F.slot_list_append PySem.F.type_list_append fy (iK dC (gW hN hv hd hcd) hi hpi) (aw he aJ hst) hbase hfew hline hst hplain) hs) fun De σ H ⟨g,env,os,r,m⟩=>by
  obtain⟨nss,e1,m2⟩:=m.bind.deep
  obtain⟨a,as,q1,q2,q3,q4⟩:=r.zH e1
  refine⟨.ref a,q1,g,env,os,r,m2.bind.mono fun da _ m3 w H2 s2 i2=>?_⟩
  obtain⟨i,k,ns,rfl,hk,hns,m4⟩:=m3.bind.Bf
  obtain⟨b,hb1,hb2⟩:=q4 k ns hns
  refine⟨a,as.map V.ref,i,.ref b,rfl,i2,ck.of (s2 _ _ q2),RM (by rw[length_map,q3];exact hk) (by rw[getElem?_map,hb1];rfl),.inl ⟨rfl,_,ck.of (s2 _ _ hb2)⟩,g,env,os,r.same s2,m4.bind.mono fun d _ m5 v H3 s3 i3=>?_⟩
  obtain⟨u,rfl,hl,m6⟩:=m5.C5
  have iu:v=.int u:=i3
  subst iu
  have r3:=r.same (s2.trans s3)
  have hb3:=s3 _ _ (s2 _ _ hb2)
  obtain⟨q8,r4⟩:=r3.Z7 (ns:=ns) e1 q1 (s3 _ _ (s2 _ _ q2)) hb1 (List.getElem?_eq_some_iff.mp hns).1 (ns++[u])
  refine⟨b,ns.map V.int,.int u,rfl,rfl,hb3,by rw[length_map];exact hl,?_⟩
  rw[map_append]at r4
  exact(show dZ X.K g H os De (.nx _)from m6) σ _ os r4 ((qW.same (s2.trans s3) os).trans (.mut q8))
def Jh(ix:Nat)(env:DE)(nss:List (List Int))(ns:List Int):R Out:= @ite _ (nss.length<sizeLine) (propDecidable _) (.ok (.nx (env.set ix (.deep (nss++[ns]))))) .bad
theorem Pe(ix:Nat){x:Str}{e:Expr}{f:DE->R (List D)}{p apos aY:Pos}(he:PE X e (tF X.K E f))(hN:X.N[ix]?=some x:=by rfl)(hv:wz X.env.scope x:=by first|exact Or.inl rfl|exact Or.inr (Or.inl rfl)|exact Or.inr (Or.inr rfl))(hd:(x==("__debug__":Str))=false:=by decide)
  (hcd:(x==("__classdict__":Str))=false:=by decide)
  (hbase:attributeBase (.Name x p) "append" X.env (eval (.Name x p) X.env)=eval (.Name x p) X.env:=by rfl)
  (hfew:((backTo aY (starEach [e] X.env)).all (fun x=> !x.1)&&(backToKw aY (keywordEach [] X.env)).all (fun x=>x.1.isSome)
   &&decide ([e].length+([]:List Keyword).length+(if([]:List Keyword).isEmpty then 0 else 1)<30))=true:=by rfl)
  (hline:(apos.endLine==aY.line)=true:=by rfl)(hst:starEach [e] X.env=(false,eval e X.env)::starEach [] X.env:=by rfl)(hplain:(backTo aY (starEach [] X.env)).any (·.1)=false:=by rfl)
  (hs:swapsWith (.Call (.Attribute (.Name x p) "append" apos) [e] [] aY) none pos.line X.env=pure false:=by rfl):
  PS X (.Expr (.Call (.Attribute (.Name x p) "append" apos) [e] [] aY) pos) (tS X.K E fun env=>(gF ix env).bind fun nss=>(f env).bind fun xs=>(R.of (Em xs)).bind fun ns=>Jh ix env nss ns):=
 oQ (gf (rB plainAttrs_list PySem.F.slot_list_append PySem.F.type_list_append fy (gW hN hv hd hcd) (aw he aJ hst) hbase hfew hline hst hplain) hs) fun De σ H ⟨g,env,os,r,m⟩=>by
  obtain⟨nss,e1,m2⟩:=m.bind.deep
  obtain⟨a,as,q1,q2,q3,q4⟩:=r.zH e1
  refine⟨.ref a,q1,.inl ⟨rfl,_,ck.of q2⟩,g,env,os,r,m2.bind.mono fun xs _ m3 b vs H1 s1 hn hH i1=>?_⟩
  obtain⟨ns,e2,m4⟩:=m3.bind.of
  have e3:=wY e2
  subst e3
  have e4:=gh i1
  subst e4
  unfold Jh at m4
  split at m4
  ·rename_i c
   obtain⟨hos,r2⟩:=r.Wf s1 e1 q1 q2 hn hH
   refine⟨a,as.map V.ref,.ref b,rfl,rfl,s1 _ _ q2,by rw[length_map,q3];exact c,?_⟩
   refine(show dZ X.K g H os De (.nx _)from m4) σ _ (b::os) r2 ⟨fun y hy=>?_,fun y hy=>?_,fun y o hy ho=>?_⟩
   ·rcases mem_cons.mp hy with z|z
    ·rw[z];exact .inr hn
    ·exact .inl z
   ·by_cases z:y=a
    ·rw[z,ar]at hy;cases hy
    ·rw[ah z]at hy;exact s1.free hy
   ·rw[ah (fun z=>hy (by rw[z];exact hos))];exact s1 _ _ ho
  ·exact m4.elim
end
section
variable{X:Cx}{E:Str->Hp->Prop}{pos:Pos}{k:Nat}{fa:Addr}{fd:FuncData}{st:Stmt}{ps:List Str}{x:Str}{p:Pos}{e:Expr}{es:List Expr}{f:DE->R (List D)}
abbrev aaf:=List (Str×(List D->R (List D)))
def FnR(X:Cx)(n:Str)(m:List D->R (List D)):Prop:=∃st ps fa fd k,Df X.K X.mg n st ps fa fd/\cu X.prog X.w X.K X.mg X.base lB k fa fd ps (Lo X.K Hs m)/\bu k X.A
def FnT(X:Cx)(tab:aaf):Prop:=∀n m,tab.lookup n=some m->FnR X n m
end
def adg:D->R Int
 |.int i=>.ok i
 |_=>.bad
def aag:Out->R (List (List Int))
 |.Gr nss=>.ok nss
 |_=>.bad
def mP(n N:Nat)(b:DE->R Out)(ds:List D):R (List (List Int)):=if ds.length=n then((b (aG N ds)).bind aag).ne else .bad
section
variable{X:Cx}{E:Str->Hp->Prop}{pos:Pos}
def toS:List D->Option (List Str)
 |[]=>some []
 |.str x::r=>(toS r).map (x::·)
 |_::_=>none
def adh:D->R Str
 |.str i=>.ok i
 |_=>.bad
theorem rS{K:PySem.W.Frag}{P:Addr->Prop}{H:Hp}:∀{as:List Addr}{nss:List (List Int)},as.length=nss.length->(∀b∈as,P b)->(∀(k:Nat)(b:Addr)(ns:List Int),as[k]?=some b->nss[k]?=some ns->H b=some (.lst (ns.map V.int)))->IsL K P H (nss.map fun ns=>D.lst (ns.map D.int)) (as.map V.ref)
 |[],[],_,_,_=>rfl
 |[],_::_,h,_,_=>by simp at h
 |_::_,[],h,_,_=>by simp at h
 |a::as,ns::nss,h,hp,hi=>⟨_,_,rfl,⟨a,_,rfl,.inl ⟨hp a (by simp),.inl (hi 0 a ns rfl rfl)⟩,bW ns⟩,rS (by simpa using h) (fun b hb=>hp b (by simp[hb])) fun k b ms e1 e2=>hi (k+1) b ms e1 e2⟩
theorem PE.aah {e:Expr}{f:DE->R (List (List Int))}(h:PE X e (tDp X.K E f)):PE X e (tL X.K E fun env=>(f env).bind fun nss=>.ok (nss.map fun ns=>D.lst (ns.map D.int))):=
 imp h fun σ H Q ⟨g,env,os,r,m⟩=>⟨g,env,os,r,m.bind.mono fun nss _ q a as H' s nd=>q a _ H' s (ck.of nd.ha) (rS nd.len (fun b hb=>r.fresh (nd.fr b (mem_cons_of_mem _ hb))) nd.it)⟩
end
section
variable{X:Cx}{E:Str->Hp->Prop}{pos:Pos}
def aai(T:List (Str×Int)):List (Str×PyData):=T.map fun p=>(p.1,PyData.int p.2)
def adi(K:PySem.W.Frag)(a:Addr)(T:List (Str×Int)):Prop:=KTD.tabLook KTD.flatLooks (fun b=>K.lookup b) a (aai T)=true
end
section
variable{X:Cx}{E:Str->Hp->Prop}{pos:Pos}
def adj:D->R Unit
 |.int 1=>.ok ()
 |_=>.bad
end
section
variable{X:Cx}{E:Str->Hp->Prop}{pos:Pos}
def adk:D->R Unit
 |.int 2=>.ok ()
 |_=>.bad
end
section
variable{X:Cx}{E:Str->Hp->Prop}{pos:Pos}
def adl:D->R Unit
 |.int 0=>.ok ()
 |_=>.bad
end
def ML:D->D->Option D
 |.int i,.int j=> @ite _ (Ga i j) (propDecidable _) (some (.int (i*2^j.toNat))) none
 |_,_=>none
section
variable{X:Cx}{E:Str->Hp->Prop}{pos:Pos}
theorem MM:oU X (rI Ga fun i j=>.int (i*2^j.toNat)) ML:=rH (h:=fun i j=>.int (i*2^j.toNat)) (fun _ _=>rfl) fun x y d e=>by
 unfold ML at e
 split at e
 ·split at e
  ·rename_i i j c
   cases e
   exact⟨i,j,rfl,rfl,c,rfl⟩
  ·cases e
 ·cases e
theorem Wh:T9 X .BitOr (UW fun i j=>Builtin.bitOr i j):=by
 intro pins s σ H x y v u Q I r1 r2 h
 obtain⟨i,j,rfl,rfl,q⟩:=h
 obtain⟨t,rfl⟩:=r1
 obtain⟨t',rfl⟩:=r2
 exact ior_int ⟨.int _,H,I.tok _,⟨_,rfl⟩,q⟩
end
section
variable{K:PySem.W.Frag}{g:Gh}{env:DE}{σ:St}{H H1:Hp}{os:List Addr}
theorem Rel.Wi (r:Rel K g env σ H os){i:Nat}{c c':Ct}(e:env[i]?=some (.deep c)){a:Addr}(hσ:σ[i]?=some (some (.ref a))){o:HO}{as':List Addr}
  (hd:∀as,Dp H os a as c->(∀x,x∈as'↔x∈as)/\Dp (upd H a o) os a as' c'):a∈os/\Rel K g (env.set i (.deep c')) σ (upd H a o) os:=by
 obtain⟨A,dd⟩:=r.Ii
 obtain⟨a0,xW,hA,h1,h3⟩:=dd.dp i c e
 rw[hσ]at h1
 cases h1
 obtain⟨hm,LJ⟩:=hd xW h3
 have q8:a∈os:=(h3.mem a (by simp)).1
 have Wd:a∈A i:=by rw[hA];simp
 refine⟨q8,?_⟩
 have ex:Ext (g.P os) (g.P os) H (upd H a o):=⟨fun _ _ p _=>p,fun c o p q=>by rw[ah (fun z=>p.2 (by rw[z];exact q8))];exact q⟩
 have f:∀(j:Nat)(sl:Sl),(env.set i (Sl.deep c'))[j]?=some sl->sl≠.deep c'->i≠j/\env[j]?=some sl:=fun j sl q hn=>lH q hn
 refine⟨by simp[r.len],fun b o' q=>?_,fun j d q=>?_,fun j xs q=>?_,fun j k xs ys b q1 q2 q3 q4=>?_,fun b hc=>?_,fun j v q=>?_,?_⟩
 ·rw[ah (fun z=>by rw[z,(r.new a q8).1]at q;cases q)]
  exact r.ext b o' q
 ·obtain⟨hj,q⟩:=f j _ q (fun z=>nomatch z)
  obtain⟨v,h1,h2⟩:=r.val j d q
  exact⟨v,h1,Is.ext ex _ _ h2⟩
 ·obtain⟨hj,q⟩:=f j _ q (fun z=>nomatch z)
  obtain⟨b,vs,h1,h2,We,h4⟩:=r.own j xs q
  have Z9:b≠a:=fun z=>dd.ow i c j xs b e q h1 (by rw[z];exact Wd)
  exact⟨b,vs,h1,h2,by rw[ah Z9];exact We,IsL.ext ex _ _ h4⟩
 ·obtain⟨hj,q1⟩:=f j _ q1 (fun z=>nomatch z)
  obtain⟨hk,q2⟩:=f k _ q2 (fun z=>nomatch z)
  exact r.inj j k xs ys b q1 q2 q3 q4
 ·obtain⟨z1,o',z2⟩:=r.new b hc
  refine⟨z1,?_⟩
  by_cases z:b=a
  ·exact⟨_,by rw[z];exact ar⟩
  ·exact⟨o',by rw[ah z];exact z2⟩
 ·obtain⟨hj,q⟩:=f j _ q (fun z=>nomatch z)
  exact r.raw j v q
 ·have sub:∀(j:Nat)(y:Addr),(y∈if j=i then a::as' else A j)->y∈A j:=fun j y hy=>by
   by_cases hj:j=i
   ·rw[if_pos hj]at hy
    rw[hj,hA]
    rcases mem_cons.mp hy with w|w
    ·rw[w];exact mem_cons_self
    ·exact mem_cons_of_mem _ ((hm y).mp w)
   ·rw[if_neg hj]at hy
    exact hy
  have p1:∀(j:Nat)(ms:Ct),(env.set i (Sl.deep c'))[j]?=some (.deep ms)->∃RN,env[j]?=some (.deep RN):=fun j ms q=>by
   by_cases hj:i=j
   ·subst hj;exact⟨c,e⟩
   ·rw[getElem?_set_ne hj]at q;exact⟨ms,q⟩
  refine⟨fun j=>if j=i then a::as' else A j,fun j qH q=>?_,fun j qH m xs b q1 q2 q3 hx=>?_,fun j m qH RL Um q1 q2 x hx VC=>?_⟩
  ·by_cases hj:j=i
   ·have q':=q
    rw[hj]at q'
    have z:=bp q'
    cases z
    exact⟨a,as',if_pos hj,by rw[hj];exact hσ,LJ⟩
   ·rw[getElem?_set_ne (Ne.symm hj)]at q
    obtain⟨b,cs,z1,z2,z3⟩:=dd.dp j qH q
    refine⟨b,cs,by rw[if_neg hj];exact z1,z2,z3.to fun x hx=>?_⟩
    have hxb:x≠a:=fun z=>dd.dj i j c qH (Ne.symm hj) e q a Wd (by rw[z1,<-z];exact hx)
    exact⟨(z3.mem x hx).1,ah hxb⟩
  ·have X9:=(f m _ q2 (fun z=>nomatch z)).2
   obtain⟨RN,p⟩:=p1 j qH q1
   exact dd.ow j RN m xs b p X9 q3 (sub j b hx)
  ·obtain⟨m1,w1⟩:=p1 j qH q1
   obtain⟨m2,w2⟩:=p1 m RL q2
   exact dd.dj j m m1 m2 Um w1 w2 x (sub j x hx) (sub m x VC)
end
section
variable{X:Cx}{E:Str->Hp->Prop}{pos:Pos}
theorem Wj(ix:Nat){x:Str}{p apos aY:Pos}(hN:X.N[ix]?=some x:=by rfl)(hv:wz X.env.scope x:=by first|exact Or.inl rfl|exact Or.inr (Or.inl rfl)|exact Or.inr (Or.inr rfl))(hd:(x==("__debug__":Str))=false:=by decide)
  (hcd:(x==("__classdict__":Str))=false:=by decide)
  (hbase:attributeBase (.Name x p) "reverse" X.env (eval (.Name x p) X.env)=eval (.Name x p) X.env:=by rfl)(hline:(apos.endLine==aY.line)=true:=by rfl)
  (hs:swapsWith (.Call (.Attribute (.Name x p) "reverse" apos) [] [] aY) none pos.line X.env=pure false:=by rfl):
  PS X (.Expr (.Call (.Attribute (.Name x p) "reverse" apos) [] [] aY) pos) (tS X.K E fun env=>(gF ix env).bind fun nss=>.ok (.nx (env.set ix (.deep (.ls nss.reverse))))):=
 oQ (gf (zp plainAttrs_list PySem.F.slot_list_reverse PySem.F.type_list_reverse CP (gW hN hv hd hcd) hbase hline) hs) fun De σ H ⟨g,env,os,r,m⟩=>by
  obtain⟨nss,e1,m2⟩:=m.bind.deep
  obtain⟨a,as,q1,q2,q3,q4⟩:=r.zH e1
  refine⟨.ref a,q1,.inl ⟨rfl,_,ck.of q2⟩,a,as.map V.ref,rfl,rfl,q2,?_⟩
  obtain⟨hos,r2⟩:=r.Wi (c':=.ls nss.reverse) (o:=.lst (as.map V.ref).reverse) (as':=as.reverse) e1 q1 (fun xW dp=>by
   have d:Ao HO.lst H os a xW nss:=dp
   have has:xW=as:=by
    have z:=d.ha
    rw[q2]at z
    have z2:as.map V.ref=xW.map V.ref:=by injection z with z;injection z
    exact(lI z2).symm
   subst has
   refine⟨fun x=>mem_reverse,d.ma,by rw[<-map_reverse];exact ar,by rw[length_reverse,length_reverse];exact d.len,?_,fun k b ns e1 e2=>?_⟩
   ·have nd:=nodup_cons.mp d.nd
    exact nodup_cons.mpr ⟨fun z=>nd.1 (mem_reverse.mp z),(reverse_perm xW).nodup_iff.mpr nd.2⟩
   ·have hk:=(List.getElem?_eq_some_iff.mp e1).1
    rw[length_reverse]at hk
    rw[getElem?_reverse hk]at e1
    rw[getElem?_reverse (by rw[<-d.len];exact hk),<-d.len]at e2
    obtain⟨w1,w2⟩:=d.it _ b ns e1 e2
    have Z8:b≠a:=fun z=>(nodup_cons.mp d.nd).1 (by rw[<-z];exact mem_of_getElem? e1)
    exact⟨w1,by rw[ah Z8];exact w2⟩)
  exact(show dZ X.K g H os De (.nx _)from m2) σ _ os r2 (.mut hos)
end
theorem dfm{K:PySem.W.Frag}{h:Heap}{mg:Str->Option Value}{x:Str}{st:Stmt}{ps:List Str}{f:Addr}{oc:Value}{od an:Option Addr}{Hj:Array (Option Value)}{kV doc pm cdv ct:Value}(X:K.In h)(G:h.Ns mainGlobals mg)(a:nsIn K mainGlobals x=some (some (.ref f)))
  (l:K.lookup f=some ⟨oc,od,.func (PySem.W.fnOf x x (dY st) (bH st) (ae st) .none kV doc pm an cdv ct),Hj⟩)(c:codeIn K cdv x=true)(k:keepIn K (.ref f)=true)
  (hb:∀(kV doc pm:Value)(an:Option Addr)(cdv ct:Value)(us:List Value),us.length=ps.length->bindArgs (PySem.W.fnOf x x (dY st) (bH st) (ae st) .none kV doc pm an cdv ct) ⟨us,[]⟩=pure (ps.zip us)):
  Df K mg x st ps f (PySem.W.fnOf x x (dY st) (bH st) (ae st) .none kV doc pm an cdv ct):=⟨CQ l c k,(CQ l c k).binds hb,mg_of X G a,a⟩
theorem oZ{N P:List Str}{sc:Scope}(h1:sc.kind=.function:=by rfl)(h2:sc.isCoroutine=false:=by rfl)(h3:sc.isGenerator=false:=by rfl)(h4:N.Nodup:=by decide +kernel)(h5:N.take P.length=P:=by rfl)
  (h6:∀x∈P,sc.names.lookup x=some .local\/sc.names.lookup x=some .cell:=by decide +kernel)(h7:∀y∈sc.names,y.2≠.free:=by decide +kernel):az N P sc:=⟨h1,h2,h3,h4,h5,h6,h7⟩
def vA(n:Int):Obj:={cls:=.type "range_iterator",data:=.fields #[rawInt (0+(n-1)*1),rawInt n,rawInt (-1)]}
theorem MN:isSubtype (.type "range_iterator") (.type "reversed")=pure false:=by rw[isSubtype_type];kernel_rfl
section
variable{prog:Program}{w:World}{A:Around}{E:Value->Shared->Prop}{s:Shared}
theorem MO{r:Addr}{n:Int}{t u v:Tok}{Q:Value->Shared->Prop}(h0:0<=n)(h1:n<=1000000)(hr:IsRange s.heap r 0 n 1 t u v)
  (h:Q (.ref s.heap.objs.size) {s with heap:=s.heap.push (vA n)}):wpAny (model prog w) A (call (.builtin "range.__reversed__") [.ref r]) Q E s:=by
 refine wpAny_call_entry slot_range_reversed ⟨_,hr,rfl⟩ PySem.F.entry_range_reversed ?_ (PySem.F.args_range_reversed_1 _)
 have hsz:Builtin.Range.rangeSize 0 n 1=n:=by rw[rangeSize_one];split<;>omega
 have hsm:(Builtin.Range.rangeFitsLong 0&&Builtin.Range.rangeFitsLong n&&Builtin.Range.rangeFitsLong 1&&Builtin.Range.rangeFitsLong (-1)&&Builtin.Range.rangeFitsLong (0-1)&&Builtin.Range.rangeFitsLong n)=true:=by
  unfold Builtin.Range.rangeFitsLong
  simp only [and_eq_true,decide_eq_true_eq]
  omega
 obtain⟨hp,g,d,tk,os⟩:=s
 wp_walk using AutoSeq1.wpAny_loadPart' hr
 rw[hsz,hsm,if_neg (show¬((!true)=true)from Bool.false_ne_true)]
 dsimp only
 rw[if_pos rfl]
 exact wpAny_bind (wpAny_newObj_type (wpAny_pure ⟨_,rfl,h⟩))
theorem RQ{r:Addr}{n:Int}{t u v:Tok}{Q:Value->Shared->Prop}(h0:0<=n)(h1:n<=1000000)(hr:IsRange s.heap r 0 n 1 t u v)
  (h:Q (.ref s.heap.objs.size) {s with heap:=s.heap.push (vA n)}):codeAny (model prog w) A (.call (.builtin "reversed.__new__") ⟨[.type "reversed",.ref r],[]⟩) (wants Q E) s:=by
 have hT:s.TypeIs (.ref r) "range":=⟨_,hr,rfl⟩
 have nb:¬((Value.builtin "range.__reversed__"==Value.none)=true):=Bool.false_ne_true
 refine codeAny_of_tree (show wpAny _ A.in1 (do
  checkBuiltinCall "reversed.__new__" ⟨[.type "reversed",.ref r],[]⟩
  again (.builtin "reversed.__new__" ⟨[.type "reversed",.ref r],[]⟩)) _ _ s from ?_)
 refine wpAny_bind (wpAny_of_eq (PySem.F.newCall_reversed_1 _) (wpAny_pure ⟨plainId_quiet PySem.F.plain_reversed_new _,?_⟩))
 refine codeAny_builtin PySem.F.entry_reversed_new ?_
 rw[Around.under_plainId PySem.F.plain_reversed_new _]
 show wpAny _ _ (do
  let x<-Builtin.SmallTypes.newClass "reversed" ⟨[.type "reversed",.ref r],[]⟩
  _) _ _ _
 refine wpAny_bind (wpAny_of_eq (newClass_reversed (.ref r)) ?_)
 try dsimp only
 refine wpAny_bind (wpAny_of_eq (a:=()) (by kernel_rfl) (wpAny_bind (wpAny_of_eq (a:=()) (by kernel_rfl) ?_)))
 try dsimp only
 refine wpAny_bind (wpAny_specialOf hT slot_range_reversed.lookup ?_)
 try dsimp only
 refine wpAny_bind (wpAny_of_eq (slot_range_reversed.bind (.ref r)) ?_)
 try dsimp only
 rw[if_neg nb]
 refine wpAny_bind (wpAny_rule (wpAny_bind (m:=runValue (.call (.builtin "range.__reversed__") ⟨[.ref r],[]⟩)) ?_))
 show wpAny _ _ (call (.builtin "range.__reversed__") [.ref r]) _ _ _
 refine MO h0 h1 hr ?_
 first
 |exact wpAny_pure h
 |exact wpAny_bind (wpAny_pure (wpAny_pure h))
theorem RT{r:Addr}{n:Int}{t u v:Tok}{Q:Value->Shared->Prop}(h0:0<=n)(h1:n<=1000000)(hr:IsRange s.heap r 0 n 1 t u v)
  (h:Q (.ref s.heap.objs.size) {s with heap:=s.heap.push (vA n)}):wpAny (model prog w) A (call (.type "reversed") [.ref r]) Q E s:=by
 have hc:codeAny (model prog w) A.in1 (.call (.builtin "reversed.__new__") ⟨.type "reversed"::[.ref r],[]⟩) (wants (fun o z=>o=.ref s.heap.objs.size/\z={s with heap:=s.heap.push (vA n)}) E) s:=RQ h0 h1 hr ⟨rfl,rfl⟩
 refine callType_other (U:="range_iterator") (by decide +kernel) PySem.F.create_reversed ⟨_,_,PySem.F.mro_reversed⟩ PySem.F.made_reversed MN (PySem.F.typeCall_reversed_1 _) hc ?_
 rintro o z ⟨rfl,rfl⟩
 exact⟨⟨_,Heap.get?_push_size _ rfl,rfl⟩,h⟩
theorem MP{it:Addr}{x left c:Int}{Q:Bool->Shared->Prop}(hit:IsRangeIter s.heap it x left c)(h0:0<=left)(h1:left<=1000000)(h:∀tk,Q false {s with toks:=tk}):wpAny (model prog w) A (Builtin.List.listLengthHint (.ref it)) Q E s:=by
 have hT:s.TypeIs (.ref it) "range_iterator":=⟨_,hit,rfl⟩
 have hcall:∀(Q':Value->Shared->Prop),(∀u tk,Q' (.int left u) {s with toks:=tk})->wpAny (model prog w) A (call (.builtin "range_iterator.__length_hint__") [.ref it]) Q' E s:=fun Q' hq=>by
  refine wpAny_call_entry PySem.F.slot_range_iterator_length_hint hT PySem.F.entry_range_iterator_length_hint ?_ (PySem.F.args_range_iterator_length_hint_1 _)
  obtain⟨hp,g,d,tk,os⟩:=s
  wp_walk using AutoSeq1.wpAny_loadPart' hit
  exact⟨_,rfl,hq _ _⟩
 have Oe:Builtin.List.listTooLong left.toNat=false:=by simp[Builtin.List.listTooLong,sizeLine];omega
 unfold Builtin.List.listLengthHint
 refine wpAny_bind (wpAny_specialOf hT PySem.F.nolen_ra (show wpAny _ A (specialOf (Value.ref it) (Str.ofString "__length_hint__")>>=_) _ _ _ from wpAny_bind (wpAny_specialOf hT PySem.F.hint_ra ?_)))
 generalize hid:("range_iterator.__length_hint__":String)=id0
 wp_delta
 rw[show splitId id0=some ("range_iterator","__length_hint__")from by subst hid;decide +kernel]
 subst hid
 refine wpAny_bind (wpAny_isInstance (b:=true) hT (by rw[isSubtype_type];kernel_rfl) ?_)
 refine wpAny_ite_split (fun z=>absurd z (by decide)) fun _=>wpAny_ite_split (fun _=>?_) fun z=>absurd (by decide +kernel) z
 refine wpAny_ite_split (fun _=>?_) fun z=>absurd rfl z
 refine wpAny_bind (hcall _ fun u tk=>wpAny_bind (m:=asInt? (.int left u)) (wpAny_pure ?_))
 dsimp only
 rw[if_neg (by rw[Oe];decide)]
 exact wpAny_pure (h tk)
theorem RU{R:Result->Shared->Prop}{it:Addr}{n:Nat}(hh:A.handled=none)(hn:n<=1000000)(hit:IsRangeIter s.heap it ((n:Int)-1) n (-1))(S:Addr)(res:Value)(c₀:Nat)
  (hS:s.heap.get? S=some {cls:=.type "list",data:=.seq #[] c₀})(hSi:S≠it)
  (hR:∀h' tk oW c',(∀b o,b≠S->b≠it->s.heap.get? b=some o->h'.get? b=some o)->h'.get? S=some {cls:=.type "list",dict:=none,data:=.seq oW c',slots:=#[]}->
   ItemsOf (fun i v=>∃t,v=.int ((n:Int)-1+i*(-1)) t) oW n->R (.ok (.ret res)) {s with heap:=h',toks:=tk}):
  wpAny (model prog w) A.in1 (Builtin.List.listExtendWith (.ref S) (.ref it) res)
   (fun fin s'=>match fin with|.done f=>R (.ok f) s'|.again c'=>c'.quiet=true/\codeAny (model prog w) A c' R s') (fun e s'=>R (.error e) s') s:=by
 have hT:s.TypeIs (.ref it) "range_iterator":=⟨_,hit,rfl⟩
 have W:=(Walks.range (prog:=prog) (w:=w) (A:=A.in1) hh it ((n:Int)-1) (-1) n).toS
 have e1:Builtin.List.listSameRef (.ref S) (.ref it)=false:=by simp[Builtin.List.listSameRef,hSi]
 have e2:(Value.type "range_iterator"==Value.type "list")=false:=by decide
 have e3:(Value.type "range_iterator"==Value.type "tuple")=false:=by decide
 have st0:∀tk,IsRangeIter ({s with toks:=tk}:Shared).heap it ((n:Int)-1+((0:Nat):Int)*(-1)) ((n:Int)-((0:Nat):Int)) (-1):=fun tk=>by
  rw[show(n:Int)-1+((0:Nat):Int)*(-1)=(n:Int)-1 by omega,show(n:Int)-((0:Nat):Int)=n by omega]
  exact hit
 unfold Builtin.List.listExtendWith
 refine wpAny_bind (wpAny_typeOf hT ?_)
 simp only [e1,e2,e3,Bool.or_false,false_eq_true,if_false]
 refine wpAny_bind (W.self 0 _ _ _ (st0 s.toks) (wpAny_bind (wpAny_holding (MP hit (by omega) (by omega) fun tk=>?_))))
 refine wpAny_ite_split (fun z=>absurd z (by decide)) fun _=>wpAny_pure ⟨plainId_quiet PySem.F.plain_extend_loop _,?_⟩
 refine codeAny_extend_loopS W (le_trans hn (by decide)) S (fun hm=>hSi (mem_singleton.mp hm)) res n 0 _ #[] c₀ rfl (zero_le _) (st0 tk) hS (ItemsOf.nil _) fun s' oW c' hm hS' hacc=>?_
 rw[Moved.eq_with hm]
 exact hR s'.heap s'.toks oW c' (fun b o hb hb2 e=>hm.heap b o (fun hmem=>by
  rcases mem_cons.mp hmem with z|z
  ·exact hb z
  ·exact hb2 (mem_singleton.mp z)) e) hS' hacc
theorem MQ{Q:Value->Shared->Prop}{it:Addr}{n:Nat}(hh:A.handled=none)(hn:n<=1000000)(hit:IsRangeIter s.heap it ((n:Int)-1) n (-1))
  (hQ:∀h' tk oW c',(∀b o,b≠it->s.heap.get? b=some o->h'.get? b=some o)->h'.get? s.heap.objs.size=some {cls:=.type "list",dict:=none,data:=.seq oW c',slots:=#[]}->
   ItemsOf (fun i v=>∃t,v=.int ((n:Int)-1+i*(-1)) t) oW n->Q (.ref s.heap.objs.size) {s with heap:=h',toks:=tk}):wpAny (model prog w) A (call (.type "list") [.ref it]) Q E s:=by
 have hlt:it<s.heap.objs.size:=Heap.lt_size hit
 have hS:(s.heap.push {cls:=.type "list",data:=.seq #[]}).get? s.heap.objs.size=some {cls:=.type "list",data:=.seq #[]}:=Heap.get?_push_size _ rfl
 refine callType_codes (Q₁:=fun o z=>o=.ref s.heap.objs.size/\z={s with heap:=s.heap.push {cls:=.type "list",data:=.seq #[]}}) PySem.F.called_list (PySem.F.typeCall_list_1 _) PySem.F.entry_list_init (code_list_new _ ⟨rfl,rfl⟩) ?_
 rintro o z ⟨rfl,rfl⟩
 refine⟨⟨_,hS,rfl⟩,PySem.F.args_list_init_2 _ _,?_⟩
 show wpAny _ _ (do
  let old<-Builtin.List.listItems (.ref s.heap.objs.size)
  Builtin.List.listUpdate (.ref s.heap.objs.size) (fun _=>#[])
  letGo old.toList.reverse
  Builtin.List.listExtendWith (.ref s.heap.objs.size) (.ref it) .none) _ _ _
 refine wpAny_bind ?_
 unfold Builtin.List.listItems
 refine wpAny_bind (wpAny_seqItems hS rfl (wpAny_pure ?_))
 show wpAny _ _ (do
  updateSeq s.heap.objs.size (fun _=>#[])
  letGo (#[]:Array Value).toList.reverse
  Builtin.List.listExtendWith (.ref s.heap.objs.size) (.ref it) .none) _ _ _
 refine wpAny_bind (wpAny_updateSeq hS rfl (wpAny_bind (wpAny_letGo ?_)))
 have hS2:=Heap.get?_update_self (Obj.mapSeq (fun _=>(#[]:Array Value))) hS rfl
 have oth:∀b o,b≠s.heap.objs.size->s.heap.get? b=some o->((s.heap.push {cls:=.type "list",data:=.seq #[]}).update s.heap.objs.size (Obj.mapSeq (fun _=>(#[]:Array Value)))).get? b=some o:=
  fun b o hb e=>(Heap.get?_update_other _ _ (Ne.symm hb)).trans (Heap.get?_push_of_some _ e)
 refine RU (A:=A.in1) hh hn (oth it _ (ne_of_lt hlt) hit) s.heap.objs.size .none _ hS2 (ne_of_gt hlt) fun h' tk oW c' hk hS' hacc=>⟨rfl,?_⟩
 exact hQ h' tk oW c' (fun b o hb e=>hk b o (ne_of_lt (Heap.lt_size e)) hb (oth b o (ne_of_lt (Heap.lt_size e)) e)) hS' hacc
end
def RV(n:Nat):List D:=(range n).map fun i=>D.int ((n:Int)-1-(i:Nat))
def w6(n:Nat):List V:=(range n).map fun i=>V.int ((n:Int)-1-(i:Nat))
def Bg:List D->R (List D)
 |[.int j]=> @ite _ (0<=j/\j<=1000000) (propDecidable _) (.ok (RV j.toNat)) .bad
 |_=>.bad
theorem MR{K:PySem.W.Frag}{P:Addr->Prop}{H:Hp}(n:Nat):IsL K P H (RV n) (w6 n):=by
 unfold RV w6
 induction (range n)with
 |nil=>rfl
 |cons x r ih=>exact⟨_,_,rfl,rfl,ih⟩
theorem GD{acc:List Value}{n:Nat}(h1:acc.length=n)(h2:∀(j:Nat)(v:Value),acc[j]?=some v->∃t,v=.int ((n:Int)-1-(j:Nat)) t):Vals (w6 n) acc:=by
 have gen:∀(l:List Value)(k:Nat),(∀(j:Nat)(v:Value),l[j]?=some v->∃t,v=.int ((n:Int)-1-((k+j:Nat):Int)) t)->Vals ((range' k l.length).map fun i=>V.int ((n:Int)-1-(i:Nat))) l:=by
  intro l
  induction l with
  |nil=>intro k _;exact .nil
  |cons x r ih=>
   intro k hk
   rw[length_cons,range'_succ,map_cons]
   obtain⟨t,e⟩:=hk 0 x rfl
   refine .cons ⟨t,e⟩ (ih (k+1) fun j v e=>?_)
   obtain⟨t,e⟩:=hk (j+1) v (by simpa using e)
   exact⟨t,by rw[e,show k+(j+1)=k+1+j by omega]⟩
 have:=gen acc 0 fun j v e=>by rw[Nat.zero_add];exact h2 j v e
 rw[h1,<-List.range_eq_range']at this
 exact this
section
variable{X:Cx}{E:Str->Hp->Prop}{pos:Pos}
theorem RW{a:Expr}{p p2 p3 qZ GF:Pos}{f:DE->R (List D)}(hc:X.calm=true)(IQ:X.mg "list"=none)(hmv:X.mg "reversed"=none)(VY:X.mg "range"=none)(ha:PA X [a] (rF X.K E f))(VZ:Gl X "list":=by rfl)(hgv:Gl X "reversed":=by rfl)(hgr:Gl X "range":=by rfl)
  (hs:starEach [a] X.env=[(false,eval a X.env)]:=by rfl)(he2:starEach [.Call (.Name "range" p3) [a] [] GF] X.env=(false,eval (.Call (.Name "range" p3) [a] [] GF) X.env)::starEach [] X.env:=by rfl)
  (he:starEach [.Call (.Name "reversed" p2) [.Call (.Name "range" p3) [a] [] GF] [] qZ] X.env=(false,eval (.Call (.Name "reversed" p2) [.Call (.Name "range" p3) [a] [] GF] [] qZ) X.env)::starEach [] X.env:=by rfl)
  (hpl:(backTo pos (starEach [] X.env)).any (·.1)=false:=by rfl)(RJ:(backTo qZ (starEach [] X.env)).any (·.1)=false:=by rfl):
  PE X (.Call (.Name "list" p) [.Call (.Name "reversed" p2) [.Call (.Name "range" p3) [a] [] GF] [] qZ] [] pos) (tF X.K E fun env=>(f env).bind Bg):=by
 intro pins s σ H Q I ⟨g,env,os,r,m⟩
 refine wpAny_Call_Name_kw (gD I VZ IQ lF (PyProof.Rows.callWith_type1 ?_ he hpl))
 rw[he]
 refine Calls.spliced_cons (Call_ (gD I hgv hmv uV (PyProof.Rows.callWith_type1 ?_ he2 RJ)))
 rw[he2]
 refine Calls.spliced_cons (Call_ (gD I hgr VY wU (PyProof.Rows.callWith_type1 (cj (ha GF pins s σ H _ I ⟨g,env,os,r,m.bind.mono fun ds _ q vs H1 s1 i1=>(⟨ds,s1,i1,q⟩:∃ds,aH H H1/\IsL X.K Tr H1 ds vs/\Good E g.H₀ (Bg ds) _)⟩) fun us s1 ⟨vs,H1,I1,r1,ds,sm,i1,q⟩=>?_) hs rfl)))
 unfold Bg at q
 split at q
 ·rename_i j
  split at q
  ·rename_i c
   obtain⟨v,rfl,iv⟩:=IsL.yd i1
   have V0:v=.int j:=iv
   subst V0
   obtain⟨u,rfl,t,rfl⟩:=vals1 r1
   obtain⟨n,rfl⟩:∃n:Nat,j=n:=⟨j.toNat,by omega⟩
   rw[toNat_natCast]at q
   have hd:X.A.handled=none:=I.ok.hd hc
   refine call_range_1 (Calls.spliced_nil ?_)
   generalize hR:({cls:=.type "range",data:=.fields #[.int 0 s1.toks,.int (n:Int) t,.int 1 (s1.toks+1)]}:Obj)=oR
   refine RT (n:=n) (by omega) c.2 (show IsRange _ _ 0 (n:Int) 1 s1.toks t (s1.toks+1)from by rw[<-hR];exact IsRange.new ..) (Calls.spliced_nil ?_)
   have k1:∀b o,s1.heap.get? b=some o->((s1.heap.push oR).push (vA n)).get? b=some o:=fun b o e=>Heap.get?_push_of_some _ (Heap.get?_push_of_some _ e)
   have hit:((s1.heap.push oR).push (vA n)).get? (s1.heap.push oR).objs.size=some (vA n):=Heap.get?_push_size _ rfl
   refine MQ (n:=n) hd (by omega) (by
    show((s1.heap.push oR).push (vA n)).get? (s1.heap.push oR).objs.size=_
    rw[hit]
    unfold vA
    rw[show 0+((n:Int)-1)*1=(n:Int)-1 by omega]) fun h' tk oW c' hk hl aak=>?_
   obtain⟨hi1,hi2⟩:=aak
   have hv:Vals (w6 n) oW.toList:=GD (by simpa using hi1) fun i v e=>by
    obtain⟨t,q⟩:=hi2 i v (by simpa using e)
    exact⟨t,by rw[q];congr 1;omega⟩
   have hlen:(w6 n).length<=sizeLine:=by
    unfold w6
    rw[length_map,length_range]
    exact le_trans (show n<=1000000 by omega) (by decide)
   have QZ:∀b o,s1.heap.get? b=some o->h'.get? b=some o:=fun b o e=>hk b o (ne_of_lt (lt_trans (Heap.lt_size e) (by rw[Heap.size_push];exact lt_succ_self _))) (k1 b o e)
   have hsz:s1.heap.objs.size<=((s1.heap.push oR).push (vA n)).objs.size:=by rw[Heap.size_push,Heap.size_push];omega
   have hn1:H1 ((s1.heap.push oR).push (vA n)).objs.size=none:=I1.hok.fresh hsz
   refine⟨.ref _,upd H1 _ (.lst (w6 n)),I1.laid (a:=((s1.heap.push oR).push (vA n)).objs.size) (t':=tk) QZ hsz ⟨hlen,oW.toList,c',hv,by simpa using hl⟩,rfl,?_⟩
   exact q _ _ _ (sm.trans (aI hn1 _)) (sm.free hn1) ar (MR n)
  ·exact q.elim
 ·exact q.elim
end
section
variable{X:Cx}{E:Str->Hp->Prop}{pos:Pos}
def tM(K:PySem.W.Frag)(E:Str->Hp->Prop)(f:DE->R (List D)):TE:=fun σ H Q=>∃g env os,Rel K g env σ H os/\Good E g.H₀ (f env) fun xs=>∀a vs H',aH H H'->H' a=some (.lst vs)->IsL K (g.P os) H' xs vs->Q (.ref a) H'
theorem mNm(i:Nat){x:Str}(hN:X.N[i]?=some x:=by rfl)(hv:wz X.env.scope x:=by first|exact Or.inl rfl|exact Or.inr (Or.inl rfl)|exact Or.inr (Or.inr rfl))(hd:(x==("__debug__":Str))=false:=by decide)
  (hcd:(x==("__classdict__":Str))=false:=by decide):PE X (.Name x pos) (tM X.K E (ownAt i)):=imp (gW hN hv hd hcd) fun σ H Q ⟨g,env,os,r,m⟩=>by
 unfold ownAt at m
 split at m
 ·rename_i xs e
  obtain⟨a,vs,h1,h2,h3,h4⟩:=r.own i xs e
  exact⟨_,h1,m a vs H (aH.refl H) h3 h4⟩
 ·exact m.elim
theorem Pf{a b:Expr}{fa:DE->R (List D)}{fb:DE->R D}(ha:PE X a (tM X.K E fa))(hb:PE X b (tB X.K E fb)):PE X (.BinOp a .Mult b pos) (tF X.K E fun env=>(fa env).bind fun x=>(fb env).bind fun y=>zB x y):=
 imp (qF Ic ha hb) fun σ H Q ⟨g,env,os,r,m⟩=>⟨g,env,os,r,m.bind.mono fun x _ m1 a1 v1 H1 s1 hH i1=>⟨g,env,os,r.same s1,m1.bind.mono fun y _ m2 w H2 s2 i2=>by
  unfold zB at m2
  split at m2
  ·rename_i k _
   split at m2
   ·rename_i c
    refine⟨a1,k,v1,rfl,i2,s2 _ _ hH,c.1,c.2.1,by rw[i1.length];exact c.2.2,fun p hp=>?_⟩
    obtain⟨b1,b2,b3,b4⟩:=CT r (s1.trans s2) hp ((i1.same s2).rep k.toNat)
    exact m2 p _ _ b1 b2 b3 b4
   ·exact m2.elim
  ·exact m2.elim⟩⟩
end
def w9(env:DE):R Out:=
 (R.bind (R.bind (R.bind (R.bind (R.bind (R.bind (R.bind (R.bind (bf 0 env) fun fU=>R.bind (R.ok (D.int 1000003)) fun kX=>R.of (qz fU kX)) fun l9=>R.bind (R.ok (D.int 7)) fun kh=>R.of (Gs l9 kh)) fun v10=>R.bind (R.bind (bf 1 env) fun lh=>R.bind (bf 1 env) fun mf=>R.of (Gs lh mf)) fun v11=>R.of (jw v10 v11)) fun v8=>R.bind (R.ok (D.int 1)) fun v9=>R.of (jw v8 v9)) fun v6=>R.bind (bf 2 env) fun v7=>R.of (Gs v6 v7)) fun v4=>R.bind (R.ok (D.int 2147483647)) fun v5=>R.of (qz v4 v5)) fun v2=>R.bind (R.ok (D.int 16)) fun v3=>R.of (AX v2 v3)) fun v1=>R.ok (Out.rt v1))
def cR:=mS 3 3 w9
def ph(env:DE):R Out:=
 (aS (R.bind (R.bind (R.bind (bf 1 env) fun v4=>R.bind (R.ok (D.int 1)) fun v5=>R.bind (R.of (Au v4 v5)) iM) fun v3=>if v3=true then(R.bind (R.bind (bf 0 env) fun v8=>R.bind (R.ok (D.int 13)) fun v9=>R.of (qz v8 v9)) fun v6=>R.bind (R.ok (D.int 5)) fun v7=>R.bind (R.of (Au v6 v7)) iM)else R.ok false) fun v2=>if v2=true then(R.bind (R.ok (D.int 1)) fun v10=>R.ok (Out.rt v10))else(R.ok (Out.nx env))) fun v1=>
 (aS (R.bind (R.bind (R.bind (R.ok (D.int 2)) fun fU=>R.bind (R.bind (bf 1 v1) fun lh=>R.bind (R.ok []) fun mf=>R.ok (lh::mf)) fun kX=>R.ok (fU::kX)) fun kh=>R.of (D8 kh)) fun l9=>R.ok (Out.nx (List.set v1 1 (Sl.val l9)))) fun v11=>
 (R.bind (R.bind (bf 1 v11) fun jX=>R.bind (R.bind (R.bind (bf 0 v11) fun q9=>R.bind (R.ok (D.int 13)) fun qJ=>R.of (AX q9 qJ)) fun rf=>R.bind (R.bind (R.bind (bf 2 v11) fun vB=>R.bind (bf 1 v11) fun yk=>R.of (gZ vB yk)) fun rT=>R.bind (R.ok (D.int 1)) fun um=>R.of (jw rT um)) fun kY=>R.of (qz rf kY)) fun v20=>R.of (jw jX v20)) fun mQ=>R.ok (Out.rt mQ))))
def eZ:=mS 3 3 ph
def oH(env:DE):R Out:=
 (aS (R.bind (R.bind (R.ok (D.int 1)) fun v3=>R.bind (R.bind (bf 0 env) fun v5=>R.bind (R.bind (bf 1 env) fun v7=>R.bind (R.ok (D.int 1)) fun v8=>R.of (gZ v7 v8)) fun v6=>R.of (qz v5 v6)) fun v4=>R.of (jw v3 v4)) fun v2=>R.ok (Out.nx (List.set env 2 (Sl.val v2)))) fun v1=>
 (aS (R.bind (R.bind (R.bind (R.bind (bf 0 v1) fun kX=>R.bind (R.ok (D.int 8)) fun lh=>R.of (AX kX lh)) fun kh=>R.bind (R.ok (D.int 2)) fun fU=>R.of (qz kh fU)) fun v11=>R.bind (R.ok (D.int 1)) fun l9=>R.bind (R.of (Au v11 l9)) iM) fun v10=>if v10=true then(R.bind (R.bind (bf 2 v1) fun mQ=>R.of (rG mQ)) fun mf=>R.ok (Out.rt mf))else(R.ok (Out.nx v1))) fun v9=>
 (R.bind (bQ 2 v9) fun jX=>R.ok (Out.rt jX))))
def dJ:=mS 2 3 oH
def rV(env:DE):R Out:=
 (aS (R.bind (R.bind (R.bind (bf 0 env) fun v3=>R.bind (R.bind (bf 1 env) fun v5=>R.bind (R.ok []) fun v6=>R.ok (v5::v6)) fun v4=>R.ok (v3::v4)) dJ) fun v2=>R.ok (Out.nx (List.set env 2 (Sl.val v2)))) fun v1=>
 (aS (R.bind (R.bind (R.bind (R.bind (R.bind (bf 0 v1) fun fU=>R.bind (R.ok (D.int 16)) fun kX=>R.of (AX fU kX)) fun l9=>R.bind (R.ok (D.int 4)) fun kh=>R.of (qz l9 kh)) fun v10=>R.bind (R.ok (D.int 0)) fun v11=>R.bind (R.of (Cq v10 v11)) iM) fun v9=>if v9=true then R.ok true else(R.bind (bf 1 v1) fun lh=>R.bind (R.ok (D.int 3)) fun mf=>R.bind (R.of (Io lh mf)) iM)) fun v8=>if v8=true then(R.bind (R.bind (R.bind (R.bind (bQ 2 v1) fun v20=>R.bind (R.ok []) fun rf=>R.ok (v20::rf)) fit) fun jX=>R.ok (D.lst jX)) fun mQ=>R.ok (Out.rt mQ))else(R.ok (Out.nx v1))) fun v7=>
 (aS (R.bind (R.bind (R.bind (R.bind (R.bind (R.bind (R.bind (bf 2 v7) fun ym=>R.bind (R.ok (D.int 1)) fun Bh=>R.of (jw ym Bh)) fun zI=>R.bind (R.ok []) fun v30=>R.ok (zI::v30)) fun yk=>R.of (Gv yk)) fun um=>R.bind (bf 1 v7) fun vB=>R.bind (R.of (Io um vB)) iM) fun rT=>if rT=true then(R.bind (R.bind (bf 2 v7) fun C6=>R.bind (R.ok (D.int 1)) fun zJ=>R.of (jw C6 zJ)) fun Bj=>R.bind (R.ok (D.int 0)) fun C7=>R.bind (R.of (Av Bj C7)) iM)else R.ok false) fun qJ=>if qJ=true then(R.bind (bf 2 v7) fun GG=>R.bind (R.ok (D.int 1)) fun Lr=>R.of (jw GG Lr))else(R.bind (bf 2 v7) fun GH=>R.bind (R.ok (D.int 1)) fun Pg=>R.of (gZ GH Pg))) fun q9=>R.ok (Out.nx (List.set v7 3 (Sl.val q9)))) fun kY=>
 (R.bind (R.bind (R.bind (R.bind (R.bind (R.bind (R.bind (bQ 2 kY) fun MS=>R.bind (R.bind (bQ 3 kY) fun MT=>R.bind (R.bind (bQ 2 kY) fun Ji=>R.bind (R.ok []) fun Ls=>R.ok (Ji::Ls)) fun MU=>R.ok (MT::MU)) fun MV=>R.ok (MS::MV)) fit) fun Jj=>R.ok (D.lst Jj)) fun Ht=>R.bind (R.bind (R.bind (R.bind (R.bind (bQ 2 kY) fun RX=>R.bind (R.bind (bQ 3 kY) fun RY=>R.bind (R.ok []) fun RZ=>R.ok (RY::RZ)) fun Jk=>R.ok (RX::Jk)) fit) fun R0=>R.ok (D.lst R0)) fun R3=>R.bind (R.bind (R.bind (R.bind (R.bind (bQ 2 kY) fun R4=>R.bind (R.bind (bQ 2 kY) fun R5=>R.bind (R.ok []) fun R6=>R.ok (R5::R6)) fun R7=>R.ok (R4::R7)) fit) fun R8=>R.ok (D.lst R8)) fun R9=>R.bind (R.bind (R.bind (R.bind (R.bind (bQ 2 kY) fun Sd=>R.bind (R.bind (R.bind (bf 3 kY) fun Se=>R.of (rG Se)) fun MX=>R.bind (R.bind (bQ 2 kY) fun Wl=>R.bind (R.ok []) fun Wm=>R.ok (Wl::Wm)) fun Sf=>R.ok (MX::Sf)) fun Sg=>R.ok (Sd::Sg)) fit) fun Sh=>R.ok (D.lst Sh)) fun Wn=>R.bind (R.ok []) fun Wo=>R.ok (Wn::Wo)) fun Jl=>R.ok (R9::Jl)) fun Ph=>R.ok (R3::Ph)) fun MY=>R.ok (Ht::MY)) fit) fun Hu=>R.bind (R.bind (R.bind (bf 0 kY) fun Wq=>R.bind (R.ok (D.int 64)) fun Wr=>R.of (AX Wq Wr)) fun Ws=>R.bind (R.ok (D.int 4)) fun Wt=>R.of (qz Ws Wt)) fun C8=>zu Hu C8) fun Si=>R.ok (Out.rt Si)))))
def g5:=mD 2 4 rV
def jG(d:D)(env:DE):R Out:=
 R.bind ((bT 2 (jR (bN 4) (jR (bN 5) yi))) d env) fun v8=>
  (R.bind (R.bind (bf 1 v8) fun v10=>R.bind (R.ok (D.int 1)) fun v11=>R.bind (R.of (Cq v10 v11)) iM) fun v9=>if v9=true then(R.bind (R.bind (R.bind (nz 3 v8) fun fU=>R.bind (R.bind (R.bind (R.bind (R.bind (R.bind (bf 5 v8) fun mQ=>R.bind (R.bind (bf 4 v8) fun v20=>R.bind (R.bind (R.ok (D.int 48271)) fun kY=>R.bind (R.ok []) fun q9=>R.ok (kY::q9)) fun rf=>R.ok (v20::rf)) fun jX=>R.ok (mQ::jX)) cR) fun lh=>R.bind (R.bind (bQ 1 v8) fun qJ=>R.bind (R.ok []) fun rT=>R.ok (qJ::rT)) fun mf=>R.ok (lh::mf)) g5) t8) fun kX=>fit (fU++kX)) fun kh=>R.ok (D.lst kh)) fun l9=>R.ok (Out.nx (List.set v8 3 (Sl.val l9))))else(R.ok (Out.nx v8)))
def rW(env:DE):R Out:=
 (aS (R.bind (R.bind (R.bind (R.ok []) fit) fun v3=>R.ok (D.lst v3)) fun v2=>R.ok (Out.nx (List.set env 3 (Sl.val v2)))) fun v1=>
 (aS (R.bind (R.bind (bQ 0 v1) fun um=>R.bind (t8 um) fun xs=>R.ok (eY xs)) fun v5=>dH jG v5 v1) fun v4=>
 (R.bind (R.bind (nz 3 v4) fun yk=>R.bind (R.ok none) fun zI=>R.bind (R.bind (bf 2 v4) Oa) fun v30=>R.ok (cut yk zI v30)) fun vB=>R.ok (Out.oF vB))))
def g6:=eg 3 6 rW
def C9(c k f:Int):Int:=(c%1000003*7+k*k+1)*f%2147483647/16
theorem Dc(c k f:Int)(hk:0<=k/\k<1000000)(hf:0<=f/\f<2147483647):cR [.int c,.int k,.int f]=.ok (.int (C9 c k f)):=by
 have h1:=emod_nonneg c (show(1000003:Int)≠0 by decide)
 have h2:=emod_lt_of_pos c (show(0:Int)<1000003 by decide)
 unfold cR w9
 simp -implicitDefEqProofs only [mS,mD,mF,eg,aG,reduceAdd,reduceSub,reduceEqDiff,reduceIte,aj,ak,aL,aM,aN,aO]
 rw[jE c 1000003 (by decide)]
 simp -implicitDefEqProofs only [R.lC,R.bg]
 rw[C1 _ 7 (.inr (by decide))]
 simp -implicitDefEqProofs only [R.lC,R.bg]
 rw[C1 k k (.inl (by omega))]
 simp -implicitDefEqProofs only [R.lC,R.bg,zC]
 rw[C1 _ f (.inr (by omega))]
 simp -implicitDefEqProofs only [R.lC,R.bg]
 rw[jE _ 2147483647 (by decide)]
 simp -implicitDefEqProofs only [R.lC,R.bg]
 rw[wV _ 16 (by decide)]
 rfl
def mR(s:Int):Int:=if s%13=5 then 1 else 2+s/13%6
theorem Dg(s:Int):eZ [.int s,.int 1,.int 7]=.ok (.int (mR s)):=by
 unfold eZ ph mR
 simp -implicitDefEqProofs only [mS,mD,mF,eg,aG,reduceAdd,reduceSub,reduceEqDiff,reduceIte,aj,ak,aL,aM,aN,aO]
 rw[jE s 13 (by decide)]
 simp -implicitDefEqProofs only [reduceIte,aj,ak,aL,aM,aN,aO,beq_self_eq_true]
 by_cases h:s%13=5
 ·simp -implicitDefEqProofs only [h,beq_self_eq_true,reduceIte,aj,ak,aL,aM,aN,aO]
 ·have h':(s%13==5)=false:=beq_false_of_ne h
  simp -implicitDefEqProofs only [h',h,reduceIte,aj,ak,aL,aM,aN,aO]
  rw[wV s 13 (by decide)]
  simp -implicitDefEqProofs only [reduceIte,aj,ak,aL,aM,aN,aO]
  rw[jE _ _ (by decide)]
  rfl
theorem Bk(s:Int):1<=mR s/\mR s<=7:=by
 unfold mR
 split<;>omega
def dR(x n:Int):Int:=if x/8%2=1 then-(1+x%(n-1))else 1+x%(n-1)
theorem Jm(x n:Int)(h:2<=n):dJ [.int x,.int n]=.ok (.int (dR x n)):=by
 unfold dJ oH dR
 simp -implicitDefEqProofs only [mS,mD,mF,eg,aG,reduceAdd,reduceSub,reduceEqDiff,reduceIte,aj,ak,aL,aM,aN,aO]
 rw[jE x (n-1) (by omega)]
 simp -implicitDefEqProofs only [reduceIte,aj,ak,aL,aM,aN,aO]
 rw[wV x 8 (by decide)]
 simp -implicitDefEqProofs only [reduceIte,aj,ak,aL,aM,aN,aO]
 rw[jE _ 2 (by decide)]
 simp -implicitDefEqProofs only [reduceIte,aj,ak,aL,aM,aN,aO]
 by_cases hc:x/8%2=1
 ·simp -implicitDefEqProofs only [hc,beq_self_eq_true,reduceIte,aj,ak,aL,aM,aN,aO]
 ·have HB:(x/8%2==1)=false:=beq_false_of_ne hc
  simp -implicitDefEqProofs only [hc,HB,reduceIte,aj,ak,aL,aM,aN,aO]
def iH(n k:Int):Prop:=k≠0/\ -n<k/\k<n
theorem Jo(x n:Int)(h:2<=n):iH n (dR x n):=by
 unfold dR iH
 have h1:=emod_nonneg x (show n-1≠0 by omega)
 have h2:=emod_lt_of_pos x (show 0<n-1 by omega)
 split<;>omega
def uo(k n:Int):Int:=if(if k+1<0 then-(k+1)else k+1)<n/\k+1≠0 then k+1 else k-1
def pC(x n:Int):List Int:=
 if x/16%4>0\/n<3 then[dR x n]else
  let k:=dR x n
  let o:=uo k n
  if x/64%4=0 then[k,o,k]else if x/64%4=1 then[k,o]else if x/64%4=2 then[k,k]else[k,-o,k]
theorem Jp{k n:Int}(h:3<=n)(hk:iH n k):iH n (uo k n):=by
 unfold uo iH at*
 split<;>split at* <;>omega
theorem Jq{x n:Int}(h:2<=n):∀k∈pC x n,iH n k:=by
 have h1:=Jo x n h
 unfold pC
 split
 ·simp[h1]
 ·rename_i hc
  have h2:=Jp (n:=n) (by omega) h1
  have h3:iH n (-uo (dR x n) n):=by unfold iH at*;omega
  dsimp only
  split
  ·simp[h1,h2]
  ·split
   ·simp[h1,h2]
   ·split<;>simp[h1,h3]
theorem yN(x n:Int):(pC x n).length<=3:=by
 unfold pC
 split
 ·simp
 ·dsimp only
  split
  ·simp
  ·split
   ·simp
   ·split<;>simp
theorem Jr(x n:Int)(h:2<=n):g5 [.int x,.int n]=.ok (.lst (aA (pC x n))):=by
 unfold g5 rV pC
 simp -implicitDefEqProofs only [mS,mD,mF,eg,aG,reduceAdd,reduceSub,reduceEqDiff,reduceIte,aj,ak,aL,aM,aN,aO]
 rw[Jm x n h]
 simp -implicitDefEqProofs only [reduceIte,aj,ak,aL,aM,aN,aO]
 rw[wV x 16 (by decide)]
 simp -implicitDefEqProofs only [reduceIte,aj,ak,aL,aM,aN,aO]
 rw[jE _ 4 (by decide)]
 simp -implicitDefEqProofs only [reduceIte,aj,ak,aL,aM,aN,aO]
 by_cases h1:0<x/16%4
 ·have Wu:x/16%4>0\/n<3:=.inl h1
  rw[if_pos Wu]
  simp -implicitDefEqProofs only [h1,decide_true,reduceIte,aj,ak,aL,aM,aN,aO]
  rfl
 ·by_cases h2:n<3
  ·have Wu:x/16%4>0\/n<3:=.inr h2
   rw[if_pos Wu]
   simp -implicitDefEqProofs only [h1,h2,decide_true,decide_false,reduceIte,aj,ak,aL,aM,aN,aO]
   rfl
  ·have Wu:¬(x/16%4>0\/n<3):=by omega
   rw[if_neg Wu]
   simp -implicitDefEqProofs only [h1,h2,decide_false,reduceIte,aj,ak,aL,aM,aN,aO]
   have ho:(R.bind (if decide ((if dR x n+1<0 then-(dR x n+1)else dR x n+1)<n)=true then R.ok (!(dR x n+1==0))else R.ok false) fun t=>if t=true then R.ok (D.int (dR x n+1))else R.ok (D.int (dR x n-1)))=R.ok (D.int (uo (dR x n) n)):=by
    unfold uo
    by_cases c1:(if dR x n+1<0 then-(dR x n+1)else dR x n+1)<n
    ·by_cases c2:dR x n+1=0
     ·simp[c1,c2,R.bg]
     ·simp[c1,c2,R.bg]
    ·simp[c1,R.bg]
   rw[ho]
   simp -implicitDefEqProofs only [reduceIte,aj,ak,aL,aM,aN,aO]
   rw[wV x 64 (by decide)]
   simp -implicitDefEqProofs only [reduceIte,aj,ak,aL,aM,aN,aO]
   rw[jE _ 4 (by decide)]
   simp -implicitDefEqProofs only [reduceIte,aj,ak,aL,aM,aN,aO]
   have h5:=emod_nonneg (x/64) (show(4:Int)≠0 by decide)
   have h6:=emod_lt_of_pos (x/64) (show(0:Int)<4 by decide)
   have h7:x/64%4=0\/x/64%4=1\/x/64%4=2\/x/64%4=3:=by omega
   rcases h7 with q|q|q|q<;>simp[q,L2.ju,L2.rq,R.lC,R.bg,R.IC,aj,aA]
def gV(n:Int)(cells:List Int)(i:Nat):List Int:=((range i).map fun k=>match cells[k]? with
 |some c=>pC (C9 c k 48271) n
 |none=>[]).flatten
theorem Js{n:Int}{cells:List Int}{i:Nat}{c:Int}(h:cells[i]?=some c):gV n cells (i+1)=gV n cells i++pC (C9 c i 48271) n:=by
 unfold gV
 rw[range_succ,map_append,flatten_append]
 simp[h]
theorem Es(n:Int)(cells:List Int):∀i:Nat,(gV n cells i).length<=3*i
 |0=>by simp[gV]
 |i+1=>by
  unfold gV
  rw[range_succ,map_append,flatten_append,length_append]
  have ih:=Es n cells i
  unfold gV at ih
  cases h:cells[i]? with
  |none=>simp -implicitDefEqProofs only [h,map_cons,map_nil,flatten_cons,flatten_nil,length_append,length_nil];omega
  |some c=>
   have:=yN (C9 c i 48271) n
   simp -implicitDefEqProofs only [h,map_cons,map_nil,flatten_cons,flatten_nil,length_append,length_nil];omega
theorem Sn{n:Int}(hn:2<=n)(cells:List Int)(i:Nat):∀k∈gV n cells i,iH n k:=by
 intro k hk
 unfold gV at hk
 rw[mem_flatten]at hk
 obtain⟨l,hl,hk⟩:=hk
 rw[mem_map]at hl
 obtain⟨j,_,rfl⟩:=hl
 cases h:cells[j]? with
 |none=>rw[h]at hk;cases hk
 |some c=>rw[h]at hk;exact Jq hn k hk
def zK(cells:List Int)(n most:Int):List Int:=(if 1<n then gV n cells cells.length else[]).take most.toNat
theorem Jt{cells:List Int}{n most:Int}:∀k∈zK cells n most,iH n k:=by
 intro k hk
 unfold zK at hk
 have:=mem_of_mem_take hk
 split at this
 ·exact Sn (by omega) _ _ k this
 ·cases this
theorem Ju(cells:List Int)(n most:Int)(hc:cells.length<=1000)(hn:1<=n)(hm:0<=most):g6 [.lst (aA cells),.int n,.int most]=.ok (aA (zK cells n most)):=by
 unfold g6 rW
 simp -implicitDefEqProofs only [mS,mD,mF,eg,aG,reduceAdd,reduceSub,reduceEqDiff,reduceIte,aj,ak,aL,aM,aN,aO]
 obtain⟨s',e,hj⟩:=ui (S:=List Int×Sl×Sl) (b:=jG)
  (fun i s=>s.1=if 1<n then gV n cells i else[]) (fun s=>[.val (.lst (aA cells)),.val (.int n),.val (.int most),.val (.lst (aA s.1)),s.2.1,s.2.2]) (eY (aA cells)) 0 ([],.no,.no) (by simp[gV]) (by
   rintro j ⟨wd,s4,s5⟩ x hs hx
   obtain⟨c,hcj,rfl⟩:=yL hx
   have hj:j<cells.length:=(List.getElem?_eq_some_iff.mp hcj).1
   rw[Nat.zero_add]at hs⊢
   have So:wd=if 1<n then gV n cells j else[]:=hs
   unfold jG
   simp -implicitDefEqProofs only [Z3,reduceIte,aj,ak,aL,aM,aN,aO]
   by_cases h1:1<n
   ·rw[if_pos h1]at So
    subst So
    have hl:=Es n cells j
    have hl2:=yN (C9 c j 48271) n
    refine⟨(gV n cells (j+1),.val (.int (j:Nat)),.val (.int c)),?_,by simp[h1]⟩
    simp -implicitDefEqProofs only [h1,decide_true,reduceIte,aj,ak,aL,aM,aN,aO]
    rw[Dc c j 48271 (by omega) (by decide)]
    simp -implicitDefEqProofs only [reduceIte,aj,ak,aL,aM,aN,aO]
    rw[Jr _ n (by omega)]
    simp -implicitDefEqProofs only [reduceIte,aj,ak,aL,aM,aN,aO,qh]
    rw[fz (by rw[length_append];omega)]
    simp -implicitDefEqProofs only [reduceIte,aj,ak,aL,aM,aN,aO,Js hcj]
   ·rw[if_neg h1]at So
    subst So
    exact⟨([],.val (.int (j:Nat)),.val (.int c)),by simp -implicitDefEqProofs only [h1,decide_false,reduceIte,aj,ak,aL,aM,aN,aO],by simp[h1]⟩)
 obtain⟨wd,s4,s5⟩:=s'
 have Dh:wd=if 1<n then gV n cells (0+(eY (aA cells)).length)else[]:=hj
 have he:(eY (aA cells)).length=cells.length:=by rw[GB,aR]
 rw[Nat.zero_add,he]at Dh
 rw[show aA []=[]from rfl]at e
 rw[e]
 simp -implicitDefEqProofs only [reduceIte,aj,ak,aL,aM,aN,aO,vY]
 rw[C4 _ _ hm,fQ]
 simp -implicitDefEqProofs only [reduceIte,aj,ak,aL,aM,aN,aO,Dh]
 rfl
theorem Et{w:List Int}{j:Nat}{x:D}(h:(aA w)[j]?=some x):∃k,w[j]?=some k/\x=.int k:=by
 rw[ME]at h
 cases q:w[j]? with
 |none=>rw[q]at h;cases h
 |some k=>rw[q]at h;cases h;exact⟨k,rfl,rfl⟩
theorem Bm{α:Type}{w:List α}{j:Nat}{k:α}(h:w[j]?=some k):w.take (j+1)=w.take j++[k]:=by
 rw[take_succ,h];rfl
theorem Wv{K:PySem.W.Frag}{H:Hp}{a:Addr}{m:List D->R D}{ns:List Int}(h:m [.lst (aA ns)]=.ok (.bl true))(hS:ck K H a (ns.map V.int)):D9 K Hs m [.ref a] H (fun v _=>v=.bl true) fun _ _ _=>False:=by
 refine⟨Tr,[.lst (aA ns)],IsL.one ⟨a,_,rfl,vv.any hS,?_⟩,?_⟩
 ·clear h hS
  induction ns with
  |nil=>rfl
  |cons x r ih=>exact⟨_,_,rfl,rfl,ih⟩
 ·rw[h]
  intro v H' _ i
  exact i
def Bo(env:DE):R Bool:=
 R.ok true
def Bp(env:DE):R D:=
 (R.bind (bf 0 env) fun v6=>R.of (rG v6))
def Bq(env:DE):R Out:=
 (R.bind (R.bind (R.bind (bQ 0 env) fun v7=>R.bind (t8 v7) fun xs=>R.ok (reverse xs)) fun v2=>R.bind (fO env []) fun v3=>R.bind (R.ne (cy (bN 0) Bo Bp (jQ 1 v3) v2)) fit) fun v1=>R.ok (Out.oF v1))
def kq:=eg 1 1 Bq
def nQ(d:D)(env:DE):R Out:=
 R.bind ((bN 2) d env) fun v7=>
  (R.bind (R.bind (R.bind (R.bind (R.bind (bf 1 v7) fun kh=>R.bind (R.ok []) fun fU=>R.ok (kh::fU)) fun l9=>R.of (oV l9)) fun v10=>R.bind (R.ok (D.int 0)) fun v11=>R.bind (R.of (Cq v10 v11)) iM) fun v9=>if v9=true then(R.bind (R.bind (nz 1 v7) fun mf=>R.bind (R.bind (R.ok (D.int 1)) fun jX=>R.of (rG jX)) fun mQ=>zu mf mQ) fun kX=>R.bind (R.bind (bf 2 v7) fun v20=>R.of (rG v20)) fun lh=>R.bind (R.of (Au kX lh)) iM)else R.ok false) fun v8=>if v8=true then(R.bind (ownAt 1 v7) fun rf=>RB 1 v7 rf)else(R.bind (ownAt 1 v7) fun kY=>R.bind (bQ 2 v7) fun q9=>I0 1 v7 kY q9))
def yO(env:DE):R Out:=
 (aS (R.bind (R.bind (R.ok []) fit) fun v2=>R.ok (Out.nx (List.set env 1 (Sl.own v2)))) fun v1=>
 (aS (R.bind (R.bind (bQ 0 v1) t8) fun v4=>dH nQ v4 v1) fun v3=>
 (R.bind (ownAt 1 v3) fun qJ=>R.ok (Out.oF qJ))))
def mU:=eg 1 3 yO
def xf(env:DE):R Out:=
 (R.bind (R.bind (R.bind (bf 0 env) fun v2=>R.bind (R.ok []) fun v3=>R.ok (v2::v3)) nN) fun v1=>R.ok (Out.oF v1))
def cS:=eg 1 1 xf
def Jv(env:DE):R Out:=
 (R.bind (R.bind (R.bind (R.bind (bf 0 env) fun v4=>R.bind (R.ok (D.int 1)) fun v5=>R.of (gZ v4 v5)) fun v2=>R.bind (R.bind (R.bind (R.ok (D.int 1)) fun v8=>R.of (rG v8)) fun v6=>R.bind (R.bind (R.bind (R.ok (D.int 1)) fun v11=>R.of (rG v11)) fun v9=>R.bind (R.ok []) fun v10=>R.ok (v9::v10)) fun v7=>R.ok (v6::v7)) fun v3=>R.ok (v2::v3)) Jf) fun v1=>R.ok (Out.oF v1))
def rg:=eg 1 1 Jv
def kr(d:D)(env:DE):R Out:=
 R.bind ((bT 2 (jR (bN 2) (jR (bN 3) yi))) d env) fun fU=>
  (R.bind (bQ 2 fU) fun kX=>R.bind (ownAt 1 fU) fun lh=>R.bind (bf 3 fU) fun mf=>yj 1 fU kX lh mf)
def uW(env:DE):R Out:=
 (aS (R.bind (R.bind (R.bind (R.bind (R.ok (D.int 0)) fun v5=>R.bind (R.ok []) fun v6=>R.ok (v5::v6)) fit) fun v3=>R.bind (R.bind (R.bind (bf 0 env) fun v8=>R.bind (R.ok []) fun v9=>R.ok (v8::v9)) fun v7=>R.of (oV v7)) fun v4=>zB v3 v4) fun v2=>R.ok (Out.nx (List.set env 1 (Sl.own v2)))) fun v1=>
 (aS (R.bind (R.bind (bQ 0 v1) fun mQ=>R.bind (t8 mQ) fun xs=>R.ok (eY xs)) fun v11=>dH kr v11 v1) fun v10=>
 (R.bind (ownAt 1 v10) fun jX=>R.ok (Out.oF jX))))
def b8:=eg 1 4 uW
def xg(env:DE):R Bool:=
 (R.bind (R.bind (nz 1 env) fun v8=>R.bind (R.bind (bf 0 env) fun v10=>R.bind (R.ok (D.int 1)) fun v11=>R.of (gZ v10 v11)) fun v9=>zu v8 v9) fun v6=>R.bind (R.bind (nz 1 env) fun l9=>R.bind (bf 0 env) fun kh=>zu l9 kh) fun v7=>R.bind (R.of (Cq v6 v7)) iM)
def xh(env:DE):R D:=
 (bQ 0 env)
def Eu(env:DE):R Out:=
 (R.bind (R.bind (R.bind (R.bind (R.ok (D.int 1)) fun fU=>R.bind (R.bind (R.bind (R.bind (bf 0 env) fun jX=>R.bind (R.ok []) fun v20=>R.ok (jX::v20)) fun mQ=>R.of (oV mQ)) fun lh=>R.bind (R.ok []) fun mf=>R.ok (lh::mf)) fun kX=>R.ok (fU::kX)) Gw) fun v2=>R.bind (fO env [0]) fun v3=>R.bind (R.ne (cy (bN 0) xg xh (jQ 1 v3) v2)) fit) fun v1=>R.ok (Out.oF v1))
def qi:=eg 1 1 Eu
def g7(env:DE):R Out:=
 (R.bind (R.bind (R.bind (R.bind (nz 0 env) fun v6=>R.bind (R.ok none) fun v7=>R.bind (R.bind (R.bind (bf 1 env) fun v9=>R.bind (R.ok (D.int 1)) fun v10=>R.of (gZ v9 v10)) Oa) fun v8=>R.ok (cut v6 v7 v8)) fun v4=>R.bind (R.bind (R.bind (R.bind (nz 0 env) fun kh=>R.bind (bf 1 env) fun fU=>zu kh fU) fun v11=>R.bind (R.bind (R.bind (nz 0 env) fun mf=>R.bind (R.bind (bf 1 env) fun jX=>R.bind (R.ok (D.int 1)) fun v20=>R.of (gZ jX v20)) fun mQ=>zu mf mQ) fun kX=>R.bind (R.ok []) fun lh=>R.ok (kX::lh)) fun l9=>R.ok (v11::l9)) fit) fun v5=>fit (v4++v5)) fun v2=>R.bind (R.bind (nz 0 env) fun rf=>R.bind (R.bind (R.bind (bf 1 env) fun qJ=>R.bind (R.ok (D.int 1)) fun rT=>R.of (jw qJ rT)) Oa) fun kY=>R.bind (R.ok none) fun q9=>R.ok (cut rf kY q9)) fun v3=>fit (v2++v3)) fun v1=>R.ok (Out.oF v1))
def aQ:=eg 2 2 g7
def uq(env:DE):R Bool:=
 R.ok true
def mV(env:DE):R D:=
 (R.bind (R.bind (R.bind (R.bind (bf 1 env) fun v11=>R.bind (R.ok []) fun l9=>R.ok (v11::l9)) fun v10=>R.of (oV v10)) fun v8=>R.bind (R.ok (D.int 1)) fun v9=>R.of (gZ v8 v9)) fun v6=>R.bind (bf 0 env) fun v7=>R.of (gZ v6 v7))
def qK(env:DE):R Out:=
 (R.bind (R.bind (R.bind (bQ 0 env) fun kh=>R.bind (t8 kh) fun xs=>R.ok (reverse xs)) fun v2=>R.bind (fO env [0]) fun v3=>R.bind (R.ne (cy (bN 0) uq mV (jQ 1 v3) v2)) fit) fun v1=>R.ok (Out.oF v1))
def fV:=eg 1 1 qK
def jY(d:D)(env:DE):R Out:=
 R.bind ((bN 2) d env) fun v7=>
  (R.bind (bQ 1 v7) fun v8=>R.bind (R.bind (R.ok (D.int 1)) fun v10=>R.bind (R.bind (bf 2 v7) fun l9=>R.bind (R.ok (D.int 1)) fun kh=>R.of (gZ l9 kh)) fun v11=>R.of (ML v10 v11)) fun v9=>GA (fun i j=>PySem.Builtin.bitOr i j) 1 v7 v8 v9)
def yP(env:DE):R Out:=
 (aS (R.bind (R.ok (D.int 0)) fun v2=>R.ok (Out.nx (List.set env 1 (Sl.val v2)))) fun v1=>
 (aS (R.bind (R.bind (bQ 0 v1) t8) fun v4=>dH jY v4 v1) fun v3=>
 (R.bind (bQ 1 v3) fun fU=>R.ok (Out.rt fU))))
def mW:=mS 1 3 yP
def pD(env:DE):R Out:=
 (aS (R.bind (R.bind (bf 1 env) fun v3=>R.bind (R.bind (R.bind (bf 0 env) fun v6=>R.bind (R.ok []) fun v7=>R.ok (v6::v7)) fun v5=>R.of (oV v5)) fun v4=>R.bind (R.of (Io v3 v4)) iM) fun v2=>if v2=true then(R.bind (R.bind (nz 0 env) fun v9=>R.bind (bf 1 env) fun v10=>zu v9 v10) fun v8=>R.ok (Out.rt v8))else(R.ok (Out.nx env))) fun v1=>
 (R.bind (R.ok (D.int 0)) fun v11=>R.ok (Out.rt v11)))
def dg:=mS 2 2 pD
def fA(d:D)(env:DE):R Out:=
 R.bind ((bT 2 (jR (bN 2) (jR (bN 3) yi))) d env) fun jX=>
  (R.bind (R.bind (R.bind (R.bind (R.bind (bf 2 jX) fun q9=>Ar "int" q9) iM) fun kY=>R.ok (!kY)) fun rf=>if rf=true then R.ok true else(R.bind (R.bind (R.bind (bf 2 jX) fun rT=>Ar "bool" rT) iM) fun qJ=>if qJ=true then R.ok true else(R.bind (bf 2 jX) fun um=>R.bind (bf 3 jX) fun vB=>R.bind (R.of (Av um vB)) iM))) fun v20=>if v20=true then(R.bind (R.ok (D.bl false)) fun yk=>R.ok (Out.rt yk))else(R.ok (Out.nx jX)))
def qL(env:DE):R Out:=
 (aS (R.bind (R.bind (R.bind (R.bind (R.bind (bf 0 env) fun v5=>Ar "list" v5) iM) fun v4=>R.ok (!v4)) fun v3=>if v3=true then R.ok true else(R.bind (R.bind (R.bind (bf 0 env) fun v9=>R.bind (R.ok []) fun v10=>R.ok (v9::v10)) fun v8=>R.of (oV v8)) fun v6=>R.bind (R.bind (R.bind (bf 1 env) fun l9=>R.bind (R.ok []) fun kh=>R.ok (l9::kh)) fun v11=>R.of (oV v11)) fun v7=>R.bind (R.of (Av v6 v7)) iM)) fun v2=>if v2=true then(R.bind (R.ok (D.bl false)) fun fU=>R.ok (Out.rt fU))else(R.ok (Out.nx env))) fun v1=>
 (aS (R.bind (R.bind (R.bind (bQ 0 v1) fun zI=>R.bind (R.bind (bQ 1 v1) fun ym=>R.bind (R.ok []) fun Bh=>R.ok (ym::Bh)) fun v30=>R.ok (zI::v30)) zip2) fun lh=>dH fA lh v1) fun kX=>
 (R.bind (R.ok (D.bl true)) fun Bj=>R.ok (Out.rt Bj))))
def fW:=mS 2 4 qL
def g8(env:DE):R Out:=
 (aS (R.bind (nz 0 env) fun v2=>R.ok (Out.nx (List.set env 2 (Sl.own v2)))) fun v1=>
 (aS (R.bind (bQ 1 v1) fun v4=>R.bind (ownAt 2 v1) fun v5=>R.bind (R.bind (nz 0 v1) fun v7=>R.bind (R.bind (bf 1 v1) fun v9=>R.bind (R.ok (D.int 1)) fun v10=>R.of (gZ v9 v10)) fun v8=>jF v7 v8) fun v6=>yj 2 v1 v4 v5 v6) fun v3=>
 (aS (R.bind (R.bind (bf 1 v3) fun kX=>R.bind (R.ok (D.int 1)) fun lh=>R.of (gZ kX lh)) fun l9=>R.bind (ownAt 2 v3) fun kh=>R.bind (R.bind (nz 0 v3) fun mf=>R.bind (bf 1 v3) fun mQ=>jF mf mQ) fun fU=>yj 2 v3 l9 kh fU) fun v11=>
 (R.bind (ownAt 2 v11) fun jX=>R.ok (Out.oF jX)))))
def bD:=eg 2 3 g8
def xj(env:DE):R Bool:=
 R.ok true
def pF(env:DE):R D:=
 (R.bind (bf 0 env) fun v6=>R.of (rG v6))
def uX(env:DE):R Out:=
 (R.bind (R.bind (R.bind (bQ 0 env) fun v7=>R.bind (t8 v7) fun xs=>R.ok (reverse xs)) fun v2=>R.bind (fO env []) fun v3=>R.bind (R.ne (cy (bN 0) xj pF (jQ 1 v3) v2)) fit) fun v1=>R.ok (Out.oF v1))
def jx:=eg 1 1 uX
def rX(env:DE):R Bool:=
 (R.bind (R.bind (R.bind (R.bind (bf 0 env) fun Jk=>Ar "int" Jk) iM) fun RX=>R.ok (!RX)) fun R0=>if R0=true then R.ok true else(R.bind (R.bind (bf 0 env) fun RY=>Ar "bool" RY) iM))
def rY(env:DE):R D:=
 (bQ 0 env)
def eu(d:D)(env:DE):R Out:=
 R.bind ((bN 4) d env) fun Hv=>
  (R.bind (R.bind (R.bind (bf 2 Hv) fun v89=>R.bind (R.ok D.non) fun v90=>R.bind (R.of (Ba v89 v90)) iM) fun Up=>if Up=true then(R.bind (R.bind (R.bind (nz 3 Hv) fun v94=>R.bind (R.bind (bf 4 Hv) fun v96=>R.bind (R.ok (D.int 1)) fun v97=>R.of (gZ v96 v97)) fun v95=>jF v94 v95) fun v92=>R.bind (R.bind (nz 3 Hv) fun v98=>R.bind (bf 4 Hv) fun v99=>jF v98 v99) fun v93=>R.bind (R.of (Cq v92 v93)) iM) fun v91=>if v91=true then(R.bind (R.bind (bQ 2 Hv) fun Sq=>R.bind (R.bind (bf 4 Hv) fun Ss=>R.bind (R.ok (D.int 1)) fun Su=>R.of (gZ Ss Su)) fun Jw=>t9 Sq Jw) fun Sv=>R.bind (R.bind (bQ 2 Hv) fun Sw=>R.bind (bf 4 Hv) fun Sx=>t9 Sw Sx) fun Sy=>R.bind (R.of (Io Sv Sy)) iM)else R.ok false)else R.ok false) fun v87=>if v87=true then(R.bind (R.ok (D.bl false)) fun Sz=>R.ok (Out.rt Sz))else(R.ok (Out.nx Hv)))
def eB(d:D)(env:DE):R Out:=
 R.bind ((bN 3) d env) fun Hu=>
  (aS (R.bind (R.bind (R.bind (R.bind (R.bind (bf 3 Hu) fun MS=>Ar "list" MS) iM) fun Jj=>R.ok (!Jj)) fun MY=>if MY=true then R.ok true else(R.bind (R.bind (R.bind (R.bind (bQ 3 Hu) t8) fun Ji=>R.bind (fO Hu []) fun Ls=>R.bind (R.ne (cy (bN 0) rX rY (jQ 1 Ls) Ji)) fit) fun MU=>R.ok (D.lst MU)) fun MV=>R.bind (R.bind (R.bind (R.ok []) fit) fun RZ=>R.ok (D.lst RZ)) fun MT=>R.bind (R.of (Av MV MT)) iM)) fun Ht=>if Ht=true then(R.bind (R.ok (D.bl false)) fun R9=>R.ok (Out.rt R9))else(R.ok (Out.nx Hu))) fun C8=>
 (aS (R.bind (R.bind (R.bind (R.bind (R.bind (nz 3 C8) Bd) fun R6=>R.ok (D.lst R6)) fun R7=>R.bind (R.bind (R.bind (R.bind (bf 1 C8) fun Wo=>R.bind (R.ok []) fun Sh=>R.ok (Wo::Sh)) nN) fun Wn=>R.ok (D.lst Wn)) fun R5=>R.bind (R.of (Av R7 R5)) iM) fun R4=>if R4=true then R.ok true else(R.bind (R.bind (bf 3 C8) fun Sg=>R.bind (R.bind (R.bind (R.bind (bf 1 C8) fun Se=>R.bind (R.ok []) fun Wl=>R.ok (Se::Wl)) nN) fun Sf=>R.ok (D.lst Sf)) fun MX=>R.bind (R.of (Au Sg MX)) iM) fun Sd=>if Sd=true then R.ok true else(R.bind (bf 3 C8) fun Wm=>R.bind (R.bind (R.bind (R.bind (bf 1 C8) fun Wq=>R.bind (R.ok []) fun Wr=>R.ok (Wq::Wr)) Bg) fun Wt=>R.ok (D.lst Wt)) fun Ws=>R.bind (R.of (Au Wm Ws)) iM))) fun R8=>if R8=true then(R.bind (R.ok (D.bl false)) fun v81=>R.ok (Out.rt v81))else(R.ok (Out.nx C8))) fun Jl=>
 (aS (R.bind (R.bind (R.bind (R.ok (D.int 1)) fun SA=>R.bind (R.bind (bf 1 Jl) fun SD=>R.bind (R.ok []) fun MZ=>R.ok (SD::MZ)) fun SE=>R.ok (SA::SE)) Gw) fun v83=>dH eu v83 Jl) fun Yb=>
 (R.bind (bQ 3 Yb) fun SG=>R.ok (Out.nx (List.set Yb 2 (Sl.val SG)))))))
def pG(env:DE):R Out:=
 (aS (R.bind (R.bind (R.bind (R.bind (R.bind (bf 0 env) fun v5=>Ar "tuple" v5) iM) fun v4=>R.ok (!v4)) fun v3=>if v3=true then R.ok true else(R.bind (R.bind (R.bind (R.bind (bf 0 env) fun v10=>R.bind (R.ok []) fun v11=>R.ok (v10::v11)) fun v9=>R.of (oV v9)) fun v7=>R.bind (R.ok (D.int 2)) fun v8=>R.bind (R.of (Av v7 v8)) iM) fun v6=>if v6=true then R.ok true else(R.bind (R.bind (R.bind (R.bind (bQ 0 env) fun fU=>R.bind (R.ok (D.int 1)) fun kX=>t9 fU kX) fun kh=>Ar "list" kh) iM) fun l9=>R.ok (!l9)))) fun v2=>if v2=true then(R.bind (R.ok (D.bl false)) fun lh=>R.ok (Out.rt lh))else(R.ok (Out.nx env))) fun v1=>
 (aS (R.bind (R.bind (R.bind (R.bind (R.bind (R.bind (bQ 0 v1) fun kY=>R.bind (R.ok (D.int 0)) fun q9=>t9 kY q9) fun rf=>Ar "int" rf) iM) fun v20=>R.ok (!v20)) fun jX=>if jX=true then R.ok true else(R.bind (R.bind (R.bind (R.bind (bQ 0 v1) fun um=>R.bind (R.ok (D.int 0)) fun vB=>t9 um vB) fun rT=>Ar "bool" rT) iM) fun qJ=>if qJ=true then R.ok true else(R.bind (R.bind (bf 1 v1) fun zI=>R.bind (R.ok (D.int 1)) fun v30=>R.bind (R.of (Au zI v30)) iM) fun yk=>if yk=true then(R.bind (R.bind (bQ 0 v1) fun Bj=>R.bind (R.ok (D.int 0)) fun C7=>t9 Bj C7) fun ym=>R.bind (R.ok (D.int 0)) fun Bh=>R.bind (R.of (Av ym Bh)) iM)else R.ok false))) fun mQ=>if mQ=true then(R.bind (R.ok (D.bl false)) fun C6=>R.ok (Out.rt C6))else(R.ok (Out.nx v1))) fun mf=>
 (aS (R.bind (R.ok D.non) fun GG=>R.ok (Out.nx (List.set mf 2 (Sl.val GG)))) fun zJ=>
 (aS (R.bind (R.bind (R.bind (bQ 0 zJ) fun SH=>R.bind (R.ok (D.int 1)) fun SJ=>t9 SH SJ) t8) fun GH=>dH eB GH zJ) fun Lr=>
 (R.bind (R.ok (D.bl true)) fun SK=>R.ok (Out.rt SK))))))
def cA:=mS 2 5 pG
def Br(env:DE):R Out:=
 (R.bind (R.bind (R.bind (R.bind (R.bind (R.bind (bQ 0 env) fun v5=>R.bind (R.ok []) fun v6=>R.ok (v5::v6)) b8) fun v4=>R.ok (D.lst v4)) fun v2=>R.bind (R.ok []) fun v3=>R.ok (v2::v3)) qi) fun v1=>R.ok (Out.oF v1))
def ky:=eg 1 1 Br
def iO(env:DE):R Out:=
 (R.bind (R.bind (R.bind (R.bind (R.bind (R.bind (R.bind (R.bind (R.bind (bQ 0 env) fun v8=>R.bind (R.ok []) fun v9=>R.ok (v8::v9)) b8) fun v7=>R.ok (D.lst v7)) fun v5=>R.bind (R.bind (bQ 1 env) fun v10=>R.bind (R.ok []) fun v11=>R.ok (v10::v11)) fun v6=>R.ok (v5::v6)) aQ) fun v4=>R.ok (D.lst v4)) fun v2=>R.bind (R.ok []) fun v3=>R.ok (v2::v3)) b8) fun v1=>R.ok (Out.oF v1))
def bq:=eg 2 2 iO
def lJ(d:D)(env:DE):R Out:=
 R.bind ((bN 3) d env) fun v9=>
  (aS (R.bind (R.bind (bf 3 v9) fun l9=>R.bind (R.ok (D.int 0)) fun kh=>R.bind (R.of (Io l9 kh)) iM) fun v11=>if v11=true then(R.bad:R Out)else(R.ok (Out.nx v9))) fun v10=>
 (aS (R.bind (R.bind (R.bind (nz 2 v10) fun mQ=>R.bind (R.bind (bf 3 v10) fun v20=>R.bind (R.ok (D.int 1)) fun rf=>R.of (gZ v20 rf)) fun jX=>zu mQ jX) fun lh=>R.bind (R.bind (nz 2 v10) fun kY=>R.bind (bf 3 v10) fun q9=>zu kY q9) fun mf=>R.bind (R.of (Cq lh mf)) iM) fun kX=>if kX=true then(R.bad:R Out)else(R.ok (Out.nx v10))) fun fU=>
 (R.bind (R.bind (R.bind (bf 2 fU) fun rT=>R.bind (R.bind (bf 3 fU) fun vB=>R.bind (R.ok []) fun yk=>R.ok (vB::yk)) fun um=>R.ok (rT::um)) aQ) fun qJ=>R.ok (Out.nx (List.set fU 2 (Sl.own qJ))))))
def Bs(env:DE):R Out:=
 (aS (R.bind (R.bind (R.bind (bQ 0 env) fun v3=>R.bind (R.ok []) fun v4=>R.ok (v3::v4)) cS) fun v2=>R.ok (Out.nx (List.set env 2 (Sl.own v2)))) fun v1=>
 (aS (R.bind (R.bind (bQ 1 v1) t8) fun v6=>dH lJ v6 v1) fun v5=>
 (R.bind (ownAt 2 v5) fun zI=>R.ok (Out.oF zI))))
def mX:=eg 2 4 Bs
def Di(env:DE):R Bool:=
 R.ok true
def xm(env:DE):R D:=
 (R.bind (R.bind (R.bind (R.bind (bf 1 env) fun v11=>R.bind (R.ok []) fun l9=>R.ok (v11::l9)) fun v10=>R.of (oV v10)) fun v8=>R.bind (R.ok (D.int 1)) fun v9=>R.of (gZ v8 v9)) fun v6=>R.bind (bf 0 env) fun v7=>R.of (gZ v6 v7))
def Ew(env:DE):R Out:=
 (R.bind (R.bind (R.bind (R.bind (R.bind (R.bind (bQ 0 env) fun fU=>R.bind (R.ok []) fun kX=>R.ok (fU::kX)) b8) fun kh=>R.ok (D.lst kh)) t8) fun v2=>R.bind (fO env [0]) fun v3=>R.bind (R.ne (cy (bN 0) Di xm (jQ 1 v3) v2)) fit) fun v1=>R.ok (Out.oF v1))
def rZ:=eg 1 1 Ew
def pH(d:D)(env:DE):R Out:=
 R.bind ((bN 5) d env) fun kh=>
  (aS (R.bind (R.bind (R.bind (bf 5 kh) fun mf=>R.bind (R.ok []) fun mQ=>R.ok (mf::mQ)) fun lh=>R.of (Gv lh)) fun kX=>R.ok (Out.nx (List.set kh 6 (Sl.val kX)))) fun fU=>
 (aS (R.bind (R.bind (R.bind (R.bind (R.bind (bf 2 fU) fun rT=>R.bind (R.ok []) fun um=>R.ok (rT::um)) fun qJ=>R.of (oV qJ)) fun kY=>R.bind (R.ok (D.int 0)) fun q9=>R.bind (R.of (Au kY q9)) iM) fun rf=>if rf=true then R.ok true else(R.bind (R.bind (bf 4 fU) fun yk=>R.bind (R.bind (bf 5 fU) fun v30=>R.bind (R.ok (D.int 0)) fun ym=>R.of (Cq v30 ym)) fun zI=>R.bind (R.of (Av yk zI)) iM) fun vB=>if vB=true then R.ok true else(R.bind (R.bind (nz 3 fU) fun C7=>R.bind (R.bind (bf 6 fU) fun zJ=>R.bind (R.ok (D.int 1)) fun GG=>R.of (gZ zJ GG)) fun C6=>zu C7 C6) fun Bh=>R.bind (R.bind (nz 3 fU) fun Lr=>R.bind (bf 6 fU) fun GH=>zu Lr GH) fun Bj=>R.bind (R.of (Cq Bh Bj)) iM))) fun v20=>if v20=true then(aS (R.bind (gF 2 fU) fun Si=>R.bind (R.bind (R.ok []) fit) fun Hu=>R.bind (R.of (Em Hu)) fun C8=>Jh 2 fU Si C8) fun Pg=>
 (aS (R.bind (R.bind (R.bind (bQ 0 Pg) fun Jj=>R.bind (R.ok []) fun MS=>R.ok (Jj::MS)) cS) fun MY=>R.ok (Out.nx (List.set Pg 3 (Sl.own MY)))) fun Ht=>
 (R.bind (R.bind (bf 5 Ht) fun MT=>R.bind (R.ok (D.int 0)) fun MU=>R.of (Cq MT MU)) fun MV=>R.ok (Out.nx (List.set Ht 4 (Sl.val MV))))))else(R.ok (Out.nx fU))) fun jX=>
 (aS (R.bind (gF 2 jX) fun Ls=>R.bind (R.bind (R.ok (D.int 1)) fun RX=>R.of (rG RX)) fun R3=>R.bind (Bf Ls R3) fun Ph=>R.bind (bf 5 jX) fun R0=>C5 2 jX Ls Ph R0) fun Ji=>
 (aS (R.bind (R.bind (nz 3 Ji) fun RZ=>R.bind (bf 6 Ji) fun R9=>zu RZ R9) fun RY=>R.ok (Out.nx (List.set Ji 7 (Sl.val RY)))) fun Jk=>
 (aS (R.bind (R.bind (nz 3 Jk) fun R5=>R.bind (R.bind (bf 6 Jk) fun Wn=>R.bind (R.ok (D.int 1)) fun Wo=>R.of (gZ Wn Wo)) fun R6=>zu R5 R6) fun R8=>R.bind (ownAt 3 Jk) fun R4=>R.bind (bf 6 Jk) fun R7=>yj 3 Jk R8 R4 R7) fun Jl=>
 (R.bind (bQ 7 Jl) fun Sh=>R.bind (ownAt 3 Jl) fun Sd=>R.bind (R.bind (bf 6 Jl) fun MX=>R.bind (R.ok (D.int 1)) fun Sf=>R.of (gZ MX Sf)) fun Sg=>yj 3 Jl Sh Sd Sg))))))
def Pj(env:DE):R Out:=
 (aS (R.bind (R.ok ([]:List (List Int))) fun v2=>(R.bind (fit v2) fun y=>R.ok (Out.nx (List.set env 2 (Sl.deep (Ct.ls y)))))) fun v1=>
 (aS (R.bind (R.bind (R.bind (bQ 0 v1) fun v5=>R.bind (R.ok []) fun v6=>R.ok (v5::v6)) cS) fun v4=>R.ok (Out.nx (List.set v1 3 (Sl.own v4)))) fun v3=>
 (aS (R.bind (R.ok (D.bl false)) fun v8=>R.ok (Out.nx (List.set v3 4 (Sl.val v8)))) fun v7=>
 (aS (R.bind (R.bind (bQ 1 v7) t8) fun v10=>dH pH v10 v7) fun v9=>
 (R.bind (gF 2 v9) fun Se=>R.ok (Out.AU Se))))))
def Bt:=mT 2 8 Pj
def qM(env:DE):R Out:=
 (aS (R.bind (R.bind (R.bind (bf 0 env) fun v5=>R.bind (R.ok (D.int 2)) fun v6=>R.of (qz v5 v6)) fun v3=>R.bind (R.ok (D.int 0)) fun v4=>R.bind (R.of (Au v3 v4)) iM) fun v2=>if v2=true then(R.bind (nz 1 env) fun v7=>R.ok (Out.oF v7))else(R.ok (Out.nx env))) fun v1=>
 (R.bind (R.bind (R.bind (bQ 1 v1) fun v9=>R.bind (R.ok []) fun v10=>R.ok (v9::v10)) fV) fun v8=>R.ok (Out.oF v8)))
def fX:=eg 2 2 qM
def gj(env:DE):R Bool:=
 (R.bind (bf 2 env) fun v8=>R.bind (R.bind (R.bind (bf 0 env) fun v11=>R.bind (R.ok []) fun l9=>R.ok (v11::l9)) fun v10=>R.of (oV v10)) fun v9=>R.bind (R.of (Io v8 v9)) iM)
def cG(env:DE):R Out:=
 (R.bind (R.bind (R.bind (nz 0 env) fun lh=>R.bind (R.bind (bf 2 env) fun mQ=>R.bind (R.ok (D.int 1)) fun jX=>R.of (gZ mQ jX)) fun mf=>jF lh mf) fun fU=>R.bind (R.bind (nz 0 env) fun v20=>R.bind (bf 2 env) fun rf=>jF v20 rf) fun kX=>R.bind (R.of (Cq fU kX)) iM) fun kh=>if kh=true then(aS (R.bind (ownAt 1 env) fun q9=>R.bind (bQ 2 env) fun qJ=>I0 1 env q9 qJ) fun kY=>
 (aS (R.bind (R.bind (R.bind (R.bind (bQ 0 kY) fun yk=>R.bind (R.bind (bQ 2 kY) fun v30=>R.bind (R.ok []) fun ym=>R.ok (v30::ym)) fun zI=>R.ok (yk::zI)) bD) fun vB=>R.ok (D.lst vB)) fun um=>R.ok (Out.nx (List.set kY 0 (Sl.val um)))) fun rT=>
 (R.bind (R.ok (D.int 1)) fun Bh=>R.ok (Out.nx (List.set rT 2 (Sl.val Bh))))))else(R.bind (R.bind (bf 2 env) fun C7=>R.bind (R.ok (D.int 1)) fun C6=>R.of (jw C7 C6)) fun Bj=>R.ok (Out.nx (List.set env 2 (Sl.val Bj)))))
def r6(env:DE):R Out:=
 (aS (R.bind (R.bind (R.ok []) fit) fun v2=>R.ok (Out.nx (List.set env 1 (Sl.own v2)))) fun v1=>
 (aS (R.bind (R.ok (D.int 1)) fun v4=>R.ok (Out.nx (List.set v1 2 (Sl.val v4)))) fun v3=>
 (aS (iS gj cG ((fun _=>4000) v3) v3) fun v5=>
 (R.bind (ownAt 1 v5) fun zJ=>R.ok (Out.oF zJ)))))
def dD:=eg 1 3 r6
def je(env:DE):R Bool:=
 (R.bind (R.bind (R.bind (bf 3 env) fun mf=>R.bind (R.ok []) fun mQ=>R.ok (mf::mQ)) fun lh=>R.of (oV lh)) fun fU=>R.bind (R.ok (D.int 0)) fun kX=>R.bind (R.of (Cq fU kX)) iM)
def jf(env:DE):R Out:=
 (aS (R.bind (ownAt 1 env) fun v20=>R.bind (R.bind (nz 3 env) fun kY=>R.bind (R.ok (D.int 0)) fun q9=>zu kY q9) fun rf=>I0 1 env v20 rf) fun jX=>
 (aS (R.bind (R.bind (R.bind (R.bind (bQ 2 jX) fun vB=>R.bind (R.bind (R.bind (nz 3 jX) fun ym=>R.bind (R.ok (D.int 0)) fun Bh=>zu ym Bh) fun zI=>R.bind (R.ok []) fun v30=>R.ok (zI::v30)) fun yk=>R.ok (vB::yk)) bq) fun um=>R.ok (D.lst um)) fun rT=>R.ok (Out.nx (List.set jX 2 (Sl.val rT)))) fun qJ=>
 (R.bind (R.bind (R.bind (R.bind (bQ 2 qJ) fun C6=>R.bind (R.ok []) fun zJ=>R.ok (C6::zJ)) ky) fun C7=>R.ok (D.lst C7)) fun Bj=>R.ok (Out.nx (List.set qJ 3 (Sl.val Bj))))))
def xn(env:DE):R Out:=
 (aS (R.bind (R.bind (R.ok []) fit) fun v2=>R.ok (Out.nx (List.set env 1 (Sl.own v2)))) fun v1=>
 (aS (R.bind (R.bind (nz 0 v1) fun v5=>R.ok (D.lst v5)) fun v4=>R.ok (Out.nx (List.set v1 2 (Sl.val v4)))) fun v3=>
 (aS (R.bind (R.bind (R.bind (R.bind (bQ 2 v3) fun v9=>R.bind (R.ok []) fun v10=>R.ok (v9::v10)) ky) fun v8=>R.ok (D.lst v8)) fun v7=>R.ok (Out.nx (List.set v3 3 (Sl.val v7)))) fun v6=>
 (aS (iS je jf ((fun _=>400) v6) v6) fun v11=>
 (R.bind (ownAt 1 v11) fun GG=>R.ok (Out.oF GG))))))
def gG:=eg 1 4 xn
def qN(env:DE):R Out:=
 (R.bind (R.bind (R.bind (R.bind (R.bind (R.ok (D.int 1)) fun v4=>R.of (rG v4)) fun v2=>R.bind (R.bind (R.bind (R.bind (R.bind (bQ 0 env) fun v8=>R.bind (R.ok []) fun v9=>R.ok (v8::v9)) rZ) fun v7=>R.ok (D.lst v7)) fun v5=>R.bind (R.ok []) fun v6=>R.ok (v5::v6)) fun v3=>R.ok (v2::v3)) fit) fun ds=>R.ok (D.tup ds)) fun v1=>R.ok (Out.rt v1))
def jg:=mD 1 1 qN
def dh(d:D)(env:DE):R Out:=
 R.bind ((bN 3) d env) fun v9=>
  (aS (R.bind (gF 1 v9) fun v11=>R.bind (R.bind (R.bind (bQ 2 v9) fun fU=>R.bind (R.bind (R.bind (bQ 3 v9) fun mQ=>R.bind (R.ok (D.int 1)) fun jX=>t9 mQ jX) fun lh=>R.bind (R.ok []) fun mf=>R.ok (lh::mf)) fun kX=>R.ok (fU::kX)) fX) fun l9=>R.bind (R.of (Em l9)) fun kh=>Jh 1 v9 v11 kh) fun v10=>
 (R.bind (bQ 2 v10) fun v20=>R.bind (R.bind (bQ 3 v10) fun kY=>R.bind (R.ok (D.int 0)) fun q9=>t9 kY q9) fun rf=>GA (fun i j=>i+j) 2 v10 v20 rf))
def jy(env:DE):R Out:=
 (aS (R.bind (R.ok ([]:List (List Int))) fun v2=>(R.bind (fit v2) fun y=>R.ok (Out.nx (List.set env 1 (Sl.deep (Ct.ls y)))))) fun v1=>
 (aS (R.bind (R.ok (D.int 0)) fun v4=>R.ok (Out.nx (List.set v1 2 (Sl.val v4)))) fun v3=>
 (aS (R.bind (R.bind (bQ 0 v3) fun qJ=>R.bind (t8 qJ) fun xs=>R.ok (reverse xs)) fun v6=>dH dh v6 v3) fun v5=>
 (aS (R.bind (gF 1 v5) fun um=>R.ok (Out.nx (List.set v5 1 (Sl.deep (Ct.ls (reverse um)))))) fun rT=>
 (R.bind (gF 1 rT) fun vB=>R.ok (Out.AU vB))))))
def bc:=mT 1 4 jy
def fg(d:D)(env:DE):R Out:=
 R.bind ((bN 4) d env) fun ym=>
  (R.bind (ownAt 3 ym) fun Bh=>R.bind (R.bind (R.bind (bQ 4 ym) fun C7=>R.bind (R.ok []) fun C6=>R.ok (C7::C6)) gG) fun Bj=>RA 3 ym Bh Bj)
def uY(env:DE):R Out:=
 (aS (R.bind (R.bind (R.bind (R.bind (R.bind (R.bind (bQ 0 env) fun v6=>R.bind (R.ok []) fun v7=>R.ok (v6::v7)) rg) fun v5=>R.ok (D.lst v5)) fun v3=>R.bind (R.ok []) fun v4=>R.ok (v3::v4)) gG) fun v2=>R.ok (Out.nx (List.set env 2 (Sl.own v2)))) fun v1=>
 (aS (R.bind (R.bind (R.bind (bQ 1 v1) fun l9=>R.bind (R.ok (D.int 0)) fun kh=>t9 l9 kh) fun v10=>R.bind (R.ok (D.int 0)) fun v11=>R.bind (R.of (Io v10 v11)) iM) fun v9=>if v9=true then(R.bind (R.bind (R.bind (R.bind (bf 2 v1) fun mf=>R.bind (R.ok []) fun mQ=>R.ok (mf::mQ)) kq) fun kX=>R.bind (R.bind (R.bind (bQ 1 v1) fun v20=>R.bind (R.ok (D.int 0)) fun rf=>t9 v20 rf) fun jX=>R.of (rG jX)) fun lh=>zB kX lh) fun fU=>R.ok (Out.nx (List.set v1 3 (Sl.own fU))))else(R.bind (R.bind (ownAt 2 v1) fun q9=>R.bind (R.bind (bQ 1 v1) fun rT=>R.bind (R.ok (D.int 0)) fun um=>t9 rT um) fun qJ=>zB q9 qJ) fun kY=>R.ok (Out.nx (List.set v1 3 (Sl.own kY))))) fun v8=>
 (aS (R.bind (R.bind (R.bind (bQ 1 v8) fun zJ=>R.bind (R.ok (D.int 1)) fun GG=>t9 zJ GG) t8) fun yk=>dH fg yk v8) fun vB=>
 (R.bind (ownAt 3 vB) fun Lr=>R.ok (Out.oF Lr)))))
def gK:=eg 2 5 uY
def yQ(env:DE):R Out:=
 (aS (R.bind (R.bind (R.bind (nz 1 env) fun v5=>R.bind (R.ok (D.int 0)) fun v6=>zu v5 v6) fun v3=>R.bind (R.ok (D.int 0)) fun v4=>R.bind (R.of (Cq v3 v4)) iM) fun v2=>if v2=true then(R.bind (R.bind (R.bind (R.bind (R.ok (D.int 0)) fun v8=>R.bind (R.bind (R.bind (R.bind (R.bind (bQ 0 env) fun kh=>R.bind (R.bind (bQ 1 env) fun kX=>R.bind (R.ok []) fun lh=>R.ok (kX::lh)) fun fU=>R.ok (kh::fU)) mX) fun l9=>R.ok (D.lst l9)) fun v10=>R.bind (R.ok []) fun v11=>R.ok (v10::v11)) fun v9=>R.ok (v8::v9)) fit) fun ds=>R.ok (D.tup ds)) fun v7=>R.ok (Out.rt v7))else(R.ok (Out.nx env))) fun v1=>
 (R.bind (R.bind (R.bind (R.bind (R.bind (R.bind (bQ 0 v1) fun rf=>R.bind (R.bind (R.bind (R.bind (R.bind (bQ 1 v1) fun um=>R.bind (R.ok []) fun vB=>R.ok (um::vB)) kq) fun rT=>R.ok (D.lst rT)) fun q9=>R.bind (R.ok []) fun qJ=>R.ok (q9::qJ)) fun kY=>R.ok (rf::kY)) mX) fun v20=>R.ok (D.lst v20)) fun mQ=>R.bind (R.ok []) fun jX=>R.ok (mQ::jX)) jg) fun mf=>R.ok (Out.rt mf)))
def mY:=mD 2 2 yQ
def pI(env:DE):R Bool:=
 R.ok true
def kB(env:DE):R D:=
 (R.bind (R.bind (bf 1 env) fun zI=>R.bind (R.bind (bf 0 env) fun ym=>R.bind (R.bind (R.ok (D.int 16807)) fun Bj=>R.bind (R.ok []) fun C7=>R.ok (Bj::C7)) fun Bh=>R.ok (ym::Bh)) fun v30=>R.ok (zI::v30)) cR)
def uZ(env:DE):R Out:=
 (aS (R.bind (R.bind (R.bind (R.bind (R.bind (R.bind (nz 0 env) fun v7=>R.bind (R.ok none) fun v8=>R.bind (R.bind (R.ok (D.int 63)) Oa) fun v9=>R.ok (cut v7 v8 v9)) fun v6=>R.ok (D.lst v6)) fun v4=>R.bind (R.bind (bQ 1 env) fun v10=>R.bind (R.bind (R.ok (D.int 189)) fun l9=>R.bind (R.ok []) fun kh=>R.ok (l9::kh)) fun v11=>R.ok (v10::v11)) fun v5=>R.ok (v4::v5)) g6) fun v3=>R.ok (D.lst v3)) fun v2=>R.ok (Out.nx (List.set env 3 (Sl.val v2)))) fun v1=>
 (aS (R.bind (R.bind (R.bind (R.bind (bf 3 v1) fun jX=>R.bind (R.ok []) fun v20=>R.ok (jX::v20)) fun mQ=>R.of (oV mQ)) fun lh=>R.bind (bf 2 v1) fun mf=>R.bind (R.of (XW lh mf)) iM) fun kX=>if kX=true then(R.bind (bQ 3 v1) fun rf=>R.ok (Out.rt rf))else(R.ok (Out.nx v1))) fun fU=>
 (aS (R.bind (R.bind (R.bind (R.bind (bQ 0 fU) fun C6=>R.bind (t8 C6) fun xs=>R.ok (eY xs)) fun rT=>R.bind (fO fU []) fun um=>R.bind (R.ne (cy (bT 2 (jR (bN 0) (jR (bN 1) yi))) pI kB (jQ 2 um) rT)) fit) fun qJ=>R.of (yM qJ)) fun q9=>R.ok (Out.nx (List.set fU 4 (Sl.val q9)))) fun kY=>
 (aS (R.bind (R.bind (bf 4 kY) fun Lr=>R.bind (R.bind (R.bind (R.bind (R.bind (bf 3 kY) fun MY=>R.bind (R.ok []) fun Jj=>R.ok (MY::Jj)) fun Ht=>R.of (oV Ht)) fun Hu=>R.bind (bf 2 kY) fun C8=>R.of (gZ Hu C8)) fun Pg=>R.bind (R.ok (D.int 1)) fun Si=>R.of (jw Pg Si)) fun GH=>R.of (qz Lr GH)) fun GG=>R.ok (Out.nx (List.set kY 5 (Sl.val GG)))) fun zJ=>
 (R.bind (R.bind (R.bind (nz 3 zJ) fun MT=>R.bind (R.bind (bf 5 zJ) Oa) fun MU=>R.bind (R.bind (R.bind (bf 5 zJ) fun Ls=>R.bind (bf 2 zJ) fun R3=>R.of (jw Ls R3)) Oa) fun Ji=>R.ok (cut MT MU Ji)) fun MV=>R.ok (D.lst MV)) fun MS=>R.ok (Out.rt MS))))))
def jz:=mD 3 6 uZ
def gH(env:DE):R Bool:=
 R.ok true
def cB(env:DE):R D:=
 (R.bind (R.bind (bQ 1 env) fun v7=>R.bind (R.bind (bQ 0 env) fun v9=>R.bind (R.ok []) fun v10=>R.ok (v9::v10)) fun v8=>R.ok (v7::v8)) mY)
def oJ(env:DE):R Out:=
 (R.bind (R.bind (R.bind (R.bind (R.ne (R.bind (R.bind (bf 0 env) fun l9=>R.bind (R.bind (R.bind (R.bind (R.bind (bQ 1 env) fun mf=>R.bind (R.ok []) fun mQ=>R.ok (mf::mQ)) mU) fun lh=>R.ok (D.lst lh)) fun fU=>R.bind (R.ok []) fun kX=>R.ok (fU::kX)) fun kh=>R.ok (l9::kh)) Bt)) fun v11=>R.ok (map (fun ns=>D.lst (map D.int ns)) v11)) fun v3=>R.bind (fO env [0]) fun v4=>R.bind (R.ne (cy (bN 0) gH cB (jQ 1 v4) v3)) fit) fun v2=>R.ok (D.lst v2)) fun v1=>R.ok (Out.rt v1))
def dM:=mD 2 2 oJ
section
variable{X:Cx}
theorem Jy{A:Around}{E:Value->Shared->Prop}{s:Shared}{d:Addr}{xs:List (List Key×Addr×Value)}{Q:Value->Shared->Prop}(hd:(d==sysModules)=false)
  (m:Heap.DictOfH (tupleKind (cW X.prog X.w)) s.heap d xs)(z:xs.length<=sizeLine)(q:Q (.int xs.length (s.toks+1)) {s with toks:=s.toks+1+1}):wpAny (model X.prog X.w) A (call (.builtin "len") [.ref d]) Q E s:=by
 have z':xs.length<=16777216:=z
 have inner:∀A,wpAny (model X.prog X.w) A (call (.builtin "dict.__len__") [.ref d]) (fun r s'=>r=.int xs.length s.toks/\s'={s with toks:=s.toks+1}) E s:=fun A=>by
  refine call_meetsIn (S:=fun _ R s'=>s'=s/\R (.ok (.ret (.int xs.length s.toks))) {s with toks:=s.toks+1}) slot_dict_len m.typeIs PySem.F.entry_dict_len (PySem.F.args_dict_len_1 _) (.of_wp fun A R s' h=>?_) ⟨rfl,rfl,rfl⟩
  obtain⟨rfl,h⟩:=h
  obtain⟨o,es,ep,h1,h2,h3,h4,_⟩:=m
  show wpAny _ _ (dictSize d>>=fun n=>_) _ _ _
  unfold dictSize
  refine wpAny_bind (wpAny_bind (wpAny_dictEntries h1 h3 (wpAny_pure (wpAny_bind (wpAny_pendingCount_other hd (wpAny_ret_mkInt ?_))))))
  rw[size_of_entries h4]
  exact h
 refine Calls.call_function_entry kind_len plain_len entry_len (args_len1 _) ?_
 unfold Builtin.«len»
 refine wpAny_bind (wpAny_pure (wpAny_bind (wpAny_callSpecial?_slot (name:=Str.ofString "__len__") m.typeIs slot_dict_len (cj (inner _) fun r s' h=>?_))))
 obtain⟨rfl,rfl⟩:=h
 refine wpAny_bind (wpAny_holding (wpAny_pure (wpAny_bind (wpAny_letGo ?_))))
 show wpAny _ _ (if((xs.length:Nat):Int)<0 then _ else _) _ _ _
 rw[if_neg (by omega)]
 show wpAny _ _ (if 2^63<=((xs.length:Nat):Int)then _ else _) _ _ _
 rw[if_neg (by omega)]
 exact wpAny_bind (wpAny_mkInt (wpAny_pure ⟨_,rfl,q⟩))
theorem GJ:qE X (.builtin "len") (fun xs H Q=>∃a kvs,xs=[V.ref a]/\H a=some (.dT kvs)/\Q (.int kvs.length) H):=by
 intro pins s σ H xs us Q I r h
 obtain⟨a,kvs,rfl,ha,q⟩:=h
 obtain⟨u,rfl,ru⟩:=vals1 r
 cases ru
 obtain⟨z,hd,ys,rel,dd⟩:=wH I.hok (.inl ha)
 have e:kvs.length=ys.length:=Paired.length rel
 exact Jy hd dd (by omega) ⟨.int kvs.length,H,I.tok _,⟨_,by rw[e]⟩,q⟩
theorem M0:XQ X "int.bit_length" (fun x vs H Q=>∃i,x=.int i/\vs=[]/\Q (.int (Builtin.Int.intBits i)) H):=by
 intro pins s σ H x xs v us Q I r rs h
 obtain⟨i,rfl,rfl,q⟩:=h
 obtain⟨t,rfl⟩:=r
 have e:=rs.zero
 subst e
 exact call_int_bit_length ⟨.int _,H,I.tok _,⟨_,rfl⟩,q⟩
end
theorem R.kC {α:Type}(a:α):(R.ok a).ne=.ok a:=rfl
theorem kD{b:D->DE->R DE}{ct:DE->R Bool}{fe:DE->R D}{e₀:DE}(g:Int->Int)(w:List Int)(h:∀k∈w,∃e,b (.int k) e₀=.ok e/\ct e=.ok true/\fe e=.ok (.int (g k))):cy b ct fe e₀ (aA w)=.ok (aA (w.map g)):=by
 rw[mO (fun d=>match d with
  |.int k=>.int (g k)
  |_=>.non) _ fun x hx=>by
   obtain⟨k,hk,rfl⟩:=mem_map.mp hx
   exact h k hk]
 unfold aA
 rw[map_map,map_map]
 rfl
def upTo(n:Nat):List Int:=(range n).map fun i=>((i:Nat):Int)
theorem ai(n:Nat):(upTo n).length=n:=by simp[upTo]
theorem pJ(n j:Nat)(h:j<n):(upTo n)[j]?=some (j:Int):=by simp[upTo,h]
theorem mem_upTo{n:Nat}{x:Int}:x∈upTo n↔0<=x/\x<n:=by
 simp -implicitDefEqProofs only [upTo,mem_map,mem_range]
 constructor
 ·rintro⟨i,h,rfl⟩;omega
 ·rintro⟨h1,h2⟩;exact⟨x.toNat,by omega,by omega⟩
theorem yR(n:Nat):nK 0 n=aA (upTo n):=by
 rw[rN];congr 1;simp[upTo]
theorem Bu(n:Nat):(upTo n).Pairwise (·<=·):=by
 unfold upTo
 rw[pairwise_map]
 exact List.pairwise_lt_range.imp fun h=>by omega
theorem xo(n:Nat):(upTo n).Nodup:=by
 unfold upTo
 unfold Nodup
 rw[pairwise_map]
 exact List.pairwise_lt_range.imp fun h=>by omega
def aP(n:Nat)(r:List Int):Prop:=r.Perm (upTo n)
theorem aP.len {n:Nat}{r:List Int}(h:aP n r):r.length=n:=by rw[h.length_eq,ai]
theorem aP.nd {n:Nat}{r:List Int}(h:aP n r):r.Nodup:=h.nodup_iff.mpr (xo n)
theorem aP.mem {n:Nat}{r:List Int}(h:aP n r){x:Int}:x∈r↔0<=x/\x<n:=h.mem_iff.trans mem_upTo
theorem aP.get {n:Nat}{r:List Int}(h:aP n r){j:Nat}{x:Int}(e:r[j]?=some x):0<=x/\x<n:=h.mem.mp (mem_of_getElem? e)
theorem kE(n:Nat):aP n (upTo n):=Perm.refl _
theorem Jz{n:Nat}{r:List Int}(h:aP n r):sortI r=upTo n:=(Be h.symm (Bu n)).symm
def aa(ns:List Int)(k:Nat):Int:=(ns[k]?).getD 0
theorem cL{l:List Int}{j:Nat}(h:j<l.length):l[j]?=some (aa l j):=by
 unfold aa
 rw[getElem?_eq_getElem h]
 rfl
theorem Dj(x:Int)(l:List Int):aa (x::l) 0=x:=rfl
theorem aT{a b:List Int}(hl:a.length=b.length)(h:∀j,j<a.length->aa a j=aa b j):a=b:=by
 refine List.ext_getElem? fun j=>?_
 by_cases hj:j<a.length
 ·rw[cL hj,cL (hl▸hj),h j hj]
 ·rw[getElem?_eq_none (by omega),getElem?_eq_none (by omega)]
theorem ao{n j:Nat}(h:j<n):aa (upTo n) j=j:=by unfold aa;rw[pJ n j h];rfl
theorem pK{l:List Int}{j i:Nat}{x:Int}(h:j<l.length):aa (l.set i x) j=if i=j then x else aa l j:=by
 unfold aa
 rw[List.getElem?_set]
 split
 ·subst_vars
  rw[if_pos h]
  rfl
 ·rfl
def dA:List Int->Nat->List Int
 |x::y::l,0=>y::x::l
 |x::l,a+1=>x::dA l a
 |l,_=>l
theorem pL(x:Int)(l:List Int)(a:Nat):dA (x::l) (a+1)=x::dA l a:=by cases l<;>rfl
theorem fE:∀(l:List Int)(a:Nat),(dA l a).length=l.length
 |[],a=>by cases a<;>rfl
 |[x],0=>rfl
 |x::y::l,0=>rfl
 |x::l,a+1=>by rw[pL,length_cons,length_cons,fE l a]
theorem g9:∀(l:List Int)(a:Nat),a+1<l.length->∀j,aa (dA l a) j=if j=a then aa l (a+1)else if j=a+1 then aa l a else aa l j
 |[],a,h,j=>by simp at h
 |[x],a,h,j=>by simp at h
 |x::y::l,0,h,j=>by
  match j with
  |0=>rfl
  |1=>rfl
  |j+2=>rw[if_neg (by omega),if_neg (by omega)];rfl
 |x::y::l,a+1,h,j=>by
  rw[pL]
  match j with
  |0=>rw[if_neg (by omega),if_neg (by omega)];rfl
  |j+1=>
   show aa (dA (y::l) a) j=if j+1=a+1 then aa (y::l) (a+1)else if j+1=a+1+1 then aa (y::l) a else aa (y::l) j
   rw[g9 (y::l) a (by simpa using h) j]
   repeat' split
   all_goals first|rfl|omega
theorem Ex:∀(l:List Int)(a:Nat),a+1<l.length->l.take a++[aa l (a+1),aa l a]++l.drop (a+2)=dA l a
 |[],a,h=>by simp at h
 |[x],a,h=>by simp at h
 |x::y::l,0,h=>rfl
 |x::y::l,a+1,h=>by
  rw[pL,<-Ex (y::l) a (by simpa using h)]
  rfl
def wsum:Nat->List Int->Int
 |_,[]=>0
 |i,x::l=>(i:Int)*x+wsum (i+1) l
theorem xp:∀(l:List Int)(a i:Nat),a+1<l.length->wsum i (dA l a)=wsum i l+(aa l a-aa l (a+1))
 |[],a,i,h=>by simp at h
 |[x],a,i,h=>by simp at h
 |x::y::l,0,i,h=>by
  show(i:Int)*y+(((i+1:Nat):Int)*x+wsum (i+1+1) l)=(i:Int)*x+(((i+1:Nat):Int)*y+wsum (i+1+1) l)+(x-y)
  rw[show((i+1:Nat):Int)=(i:Int)+1 by omega,Int.add_mul,Int.add_mul]
  omega
 |x::y::l,a+1,i,h=>by
  rw[pL]
  show(i:Int)*x+wsum (i+1) (dA (y::l) a)=(i:Int)*x+wsum (i+1) (y::l)+(aa (y::l) a-aa (y::l) (a+1))
  rw[xp (y::l) a (i+1) (by simpa using h)]
  omega
theorem Bv:∀(l:List Int)(i:Nat),(∀j,j<l.length->0<=aa l j/\aa l j<=7)->i+l.length<=7->0<=wsum i l/\wsum i l<=49*l.length
 |[],i,_,_=>by simp[wsum]
 |x::l,i,h,hi=>by
  have hx:=h 0 (by simp)
  rw[Dj]at hx
  rw[length_cons]at hi
  have ih:=Bv l (i+1) (fun j hj=>h (j+1) (by simpa using hj)) (by omega)
  have h1:0<=(i:Int)*x:=Int.mul_nonneg (by omega) hx.1
  have h2:(i:Int)*x<=7*7:=Int.mul_le_mul (by omega) hx.2 hx.1 (by decide)
  show 0<=(i:Int)*x+wsum (i+1) l/\(i:Int)*x+wsum (i+1) l<=_
  rw[length_cons]
  omega
def sg(a:Nat)(x:Int):Int:=if x=a then(a:Int)+1 else if x=(a:Int)+1 then a else x
def nR(r:List Int)(a:Nat):List Int:=r.map (sg a)
theorem r9(r:List Int)(a:Nat):(nR r a).length=r.length:=length_map _
theorem aU{r:List Int}{a p:Nat}(h:p<r.length):aa (nR r a) p=sg a (aa r p):=by
 have:=cL h
 unfold nR
 conv=>lhs;unfold aa
 rw[getElem?_map,this]
 rfl
structure Iv(n:Nat)(r s:List Int):Prop where
 lr:r.length=n
 ls:s.length=n
 rs:∀p,p<n->0<=aa r p/\aa r p<n/\aa s (aa r p).toNat=p
 sr:∀v,v<n->0<=aa s v/\aa s v<n/\aa r (aa s v).toNat=v
theorem Iv.symm {n:Nat}{r s:List Int}(h:Iv n r s):Iv n s r:=⟨h.ls,h.lr,h.sr,h.rs⟩
theorem Iv.step {n:Nat}{r s:List Int}(h:Iv n r s){a:Nat}(ha:a+1<n):Iv n (nR r a) (dA s a):=by
 refine⟨by rw[r9,h.lr],by rw[fE,h.ls],fun p hp=>?_,fun v hv=>?_⟩
 ·obtain⟨h1,h2,h3⟩:=h.rs p hp
  rw[aU (h.lr.symm▸hp),g9 _ _ (h.ls.symm▸ha)]
  generalize aa r p=v at h1 h2 h3
  unfold sg
  by_cases e1:v=a
  ·rw[if_pos e1]
   refine⟨by omega,by omega,?_⟩
   rw[if_neg (by omega),if_pos (by omega),<-h3,show v.toNat=a by omega]
  ·rw[if_neg e1]
   by_cases e2:v=(a:Int)+1
   ·rw[if_pos e2]
    refine⟨by omega,by omega,?_⟩
    rw[if_pos (by omega),<-h3,show v.toNat=a+1 by omega]
   ·rw[if_neg e2]
    refine⟨h1,h2,?_⟩
    rw[if_neg (by omega),if_neg (by omega),h3]
 ·rw[g9 _ _ (h.ls.symm▸ha)]
  by_cases e1:v=a
  ·obtain⟨h1,h2,h3⟩:=h.sr (a+1) ha
   rw[if_pos e1]
   refine⟨h1,h2,?_⟩
   rw[aU (by rw[h.lr];omega),h3]
   unfold sg
   rw[if_neg (by omega),if_pos (by omega),e1]
  ·rw[if_neg e1]
   by_cases e2:v=a+1
   ·obtain⟨h1,h2,h3⟩:=h.sr a (by omega)
    rw[if_pos e2]
    refine⟨h1,h2,?_⟩
    rw[aU (by rw[h.lr];omega),h3]
    unfold sg
    rw[if_pos rfl,e2]
    omega
   ·obtain⟨h1,h2,h3⟩:=h.sr v hv
    rw[if_neg e2]
    refine⟨h1,h2,?_⟩
    rw[aU (by rw[h.lr];omega),h3]
    unfold sg
    rw[if_neg (by omega),if_neg (by omega)]
theorem Iv.Hw {n:Nat}{r s:List Int}(h:Iv n r s){v w:Nat}(hv:v<n)(hw:w<n)(e:aa s v=aa s w):v=w:=by
 have h1:=(h.sr v hv).2.2
 have h2:=(h.sr w hw).2.2
 rw[e]at h1
 omega
theorem SM{n:Nat}{r:List Int}(h:aP n r):∃s,Iv n r s:=by
 have hc:∀v,v<n->aa ((upTo n).map fun v=>((r.idxOf v:Nat):Int)) v=(r.idxOf ((v:Nat):Int):Nat):=fun v hv=>by
  unfold aa
  rw[getElem?_map,pJ n v hv]
  rfl
 refine⟨(upTo n).map fun v=>((r.idxOf v:Nat):Int),h.len,by rw[length_map,ai],fun p hp=>?_,fun v hv=>?_⟩
 ·have Ue:p<r.length:=by rw[h.len];exact hp
  have hg:=h.get (cL Ue)
  refine⟨hg.1,hg.2,?_⟩
  rw[hc _ (by omega),show(((aa r p).toNat:Nat):Int)=aa r p by omega]
  have e:aa r p=r[p]:=by
   have:=cL Ue
   rw[getElem?_eq_getElem Ue]at this
   exact(Option.some.inj this).symm
  rw[e,h.nd.idxOf_getElem p Ue]
 ·have hm:(v:Int)∈r:=h.mem.mpr (by omega)
  have hl:=List.idxOf_lt_length_of_mem hm
  rw[hc v hv]
  have MG:=hl
  rw[h.len]at MG
  refine⟨by omega,by omega,?_⟩
  rw[toNat_natCast]
  have:=cL hl
  rw[getElem?_eq_getElem hl,getElem_idxOf hl]at this
  exact(Option.some.inj this).symm
theorem Iv.idx {n:Nat}{r s:List Int}(h:Iv n r s){v:Nat}(hv:v<n):(v:Int)∈r/\((r.idxOf (v:Int):Nat):Int)=aa s v:=by
 obtain⟨h1,h2,h3⟩:=h.sr v hv
 have hm:(v:Int)∈r:=by
  have:=cL (l:=r) (j:=(aa s v).toNat) (by rw[h.lr];omega)
  rw[h3]at this
  exact mem_of_getElem? this
 refine⟨hm,?_⟩
 have hl:=List.idxOf_lt_length_of_mem hm
 have:=cL hl
 rw[getElem?_eq_getElem hl,getElem_idxOf hl]at this
 have e:=Option.some.inj this
 have MG:=hl
 rw[h.lr]at MG
 have h4:=(h.rs _ MG).2.2
 rw[<-e,toNat_natCast]at h4
 exact h4.symm
def se(l:List Int):List Int:=((range (l.length-1)).map fun i=>1+((i:Nat):Int)).filter fun k=>decide (aa l k.toNat<aa l (k-1).toNat)
theorem lK{l:List Int}{k:Int}:k∈se l↔∃a:Nat,k=(a:Int)+1/\a+1<l.length/\aa l (a+1)<aa l a:=by
 unfold se
 rw[mem_filter,mem_map]
 constructor
 ·rintro⟨⟨i,hi,rfl⟩,h⟩
  rw[mem_range]at hi
  rw[decide_eq_true_eq,show(1+(i:Int)).toNat=i+1 by omega,show(1+(i:Int)-1).toNat=i by omega]at h
  exact⟨i,by omega,by omega,h⟩
 ·rintro⟨a,rfl,h1,h2⟩
  refine⟨⟨a,mem_range.mpr (by omega),by omega⟩,?_⟩
  rw[decide_eq_true_eq,show((a:Int)+1).toNat=a+1 by omega,show((a:Int)+1-1).toNat=a by omega]
  exact h2
theorem M4(l:List Int):(se l).length<=l.length:=by
 have h:=List.length_filter_le (fun k=>decide (aa l k.toNat<aa l (k-1).toNat)) ((range (l.length-1)).map fun i=>1+((i:Nat):Int))
 unfold se
 rw[length_map,length_range]at h
 omega
theorem JA{l t:List Int}{k:Int}(e:se l=k::t):∃a:Nat,k=(a:Int)+1/\a+1<l.length/\aa l (a+1)<aa l a/\∀j,j<a->aa l j<=aa l (j+1):=by
 obtain⟨a,h1,h2,h3⟩:=lK.mp (show k∈se l by rw[e];simp)
 refine⟨a,h1,h2,h3,fun j hj=>?_⟩
 have hp:(se l).Pairwise (·<·):=by
  unfold se
  refine Pairwise.filter _ ?_
  rw[pairwise_map]
  exact List.pairwise_lt_range.imp fun h=>by omega
 rw[e]at hp
 refine Int.not_lt.mp fun hlt=>?_
 have hm:((j:Int)+1)∈se l:=lK.mpr ⟨j,rfl,by omega,hlt⟩
 rw[e]at hm
 rcases mem_cons.mp hm with z|z
 ·omega
 ·have:=List.rel_of_pairwise_cons hp z
  omega
theorem zL{n:Nat}{r s:List Int}(h:Iv n r s)(hd:∀a,a+1<n->¬aa s (a+1)<aa s a):r=upTo n:=by
 have hlt:∀a,a+1<n->aa s a<aa s (a+1):=fun a ha=>by
  have h1:=hd a ha
  have h2:aa s a≠aa s (a+1):=fun z=>by
   have:=h.Hw (by omega) ha z
   omega
  omega
 have hge:∀a,a<n->(a:Int)<=aa s a:=fun a=>by
  induction a with
  |zero=>intro ha;exact(h.sr 0 ha).1
  |succ a ih=>
   intro ha
   have h1:=ih (by omega)
   have h2:=hlt a ha
   omega
 have hle:∀d a,a+d+1=n->aa s a<=a:=fun d=>by
  induction d with
  |zero=>
   intro a ha
   have:=(h.sr a (by omega)).2.1
   omega
  |succ d ih=>
   intro a ha
   have h1:=ih (a+1) (by omega)
   have h2:=hlt a (by omega)
   omega
 have hs:∀a,a<n->aa s a=a:=fun a ha=>by
  have h1:=hge a ha
  have h2:=hle (n-1-a) a (by omega)
  omega
 refine aT (by rw[h.lr,ai]) fun p hp=>?_
 rw[h.lr]at hp
 obtain⟨h1,h2,h3⟩:=h.rs p hp
 rw[hs _ (by omega)]at h3
 rw[ao hp]
 omega
def Wk(n:Nat)(b:Bool):List Int->List Int->List Int->Prop
 |[],r,_=>r=upTo n
 |k::w,r,s=>∃a:Nat,k=(a:Int)+1/\a+1<n/\aa s (a+1)<aa s a/\(b=true->∀j,j<a->aa s j<=aa s (j+1))/\Wk n b w (nR r a) (dA s a)
structure Od(n:Nat)(o r z:List Int):Prop where
 lo:o.length=n
 lz:z.length=n
 at_:∀p,p<n->aa o (aa r p).toNat=aa z p
 cr:∀p q,p<q->q<n->aa r q<aa r p->aa z q<aa z p
theorem Od.up {n:Nat}{r s o z:List Int}(h:Iv n r s)(d:Od n o r z){a:Nat}(ha:a+1<n)(hf:aa s (a+1)<aa s a):¬aa o (a+1)<aa o a:=by
 obtain⟨h1,h2,h3⟩:=h.sr a (by omega)
 obtain⟨g1,g2,g3⟩:=h.sr (a+1) ha
 have e1:=d.at_ (aa s a).toNat (by omega)
 have e2:=d.at_ (aa s (a+1)).toNat (by omega)
 rw[h3,toNat_natCast]at e1
 rw[g3,toNat_natCast]at e2
 have:=d.cr (aa s (a+1)).toNat (aa s a).toNat (by omega) (by omega) (by rw[h3,g3];omega)
 rw[e1,e2]
 omega
theorem Od.step {n:Nat}{r s o z:List Int}(h:Iv n r s)(d:Od n o r z){a:Nat}(ha:a+1<n)(hf:aa s (a+1)<aa s a):Od n (dA o a) (nR r a) z:=by
 refine⟨by rw[fE,d.lo],d.lz,fun p hp=>?_,fun p q hpq hq hlt=>?_⟩
 ·obtain⟨h1,h2,h3⟩:=h.rs p hp
  have e:=d.at_ p hp
  rw[aU (by rw[h.lr];exact hp),g9 _ _ (by rw[d.lo];exact ha)]
  generalize aa r p=v at h1 h2 h3 e
  unfold sg
  by_cases e1:v=a
  ·rw[if_pos e1,if_neg (by omega),if_pos (by omega),<-e,show v.toNat=a by omega]
  ·rw[if_neg e1]
   by_cases e2:v=(a:Int)+1
   ·rw[if_pos e2,if_pos (by omega),<-e,show v.toNat=a+1 by omega]
   ·rw[if_neg e2,if_neg (by omega),if_neg (by omega),e]
 ·rw[aU (by rw[h.lr];omega),aU (by rw[h.lr];omega)]at hlt
  refine d.cr p q hpq hq ?_
  obtain⟨p1,p2,p3⟩:=h.rs p (by omega)
  obtain⟨q1,q2,q3⟩:=h.rs q hq
  have hne:¬(aa r p=a/\aa r q=(a:Int)+1):=fun z=>by
   rw[z.1,toNat_natCast]at p3
   rw[z.2,show((a:Int)+1).toNat=a+1 by omega]at q3
   omega
  have afB:aa r p≠aa r q:=fun z=>by
   rw[z,q3]at p3
   omega
  generalize aa r p=x at*
  generalize aa r q=y at*
  unfold sg at hlt
  repeat' split at hlt
  all_goals omega
theorem Od.done {n:Nat}{o z:List Int}(d:Od n o (upTo n) z):o=z:=aT (by rw[d.lo,d.lz]) fun p hp=>by
 rw[d.lo]at hp
 have:=d.at_ p hp
 rwa [ao hp,toNat_natCast]at this
def S(n:Nat)(f:Nat->Nat):Nat:=((range n).map f).sum
theorem SN(f:Nat->Nat):S 0 f=0:=rfl
theorem jH(n:Nat)(f:Nat->Nat):S (n+1) f=S n f+f n:=by
 unfold S
 rw[range_succ,map_append,sum_append]
 simp
theorem Ey(n:Nat)(f:Nat->Nat):S (n+1) f=f 0+S n fun i=>f (i+1):=by
 unfold S
 rw[List.range_succ_eq_map,map_cons,sum_cons,map_map]
 rfl
theorem gk{n:Nat}{f g:Nat->Nat}(h:∀i,i<n->f i=g i):S n f=S n g:=by
 induction n with
 |zero=>rfl
 |succ n ih=>rw[jH,jH,ih fun i hi=>h i (by omega),h n (by omega)]
theorem Bw(n:Nat)(f g:Nat->Nat):S n (fun i=>f i+g i)=S n f+S n g:=by
 induction n with
 |zero=>rfl
 |succ n ih=>rw[jH,jH,jH,ih];omega
theorem M5(n c:Nat):S n (fun _=>c)=n*c:=by
 induction n with
 |zero=>rw[Nat.zero_mul];rfl
 |succ n ih=>rw[jH,ih,succ_mul]
theorem JB(n m:Nat)(f:Nat->Nat->Nat):S n (fun i=>S m fun j=>f i j)=S m fun j=>S n fun i=>f i j:=by
 induction n with
 |zero=>
  rw[SN,show(fun j=>S 0 fun i=>f i j)=fun _=>0 from rfl,M5,Nat.mul_zero]
 |succ n ih=>
  rw[jH,ih,<-Bw]
  exact gk fun j _=>(jH n fun i=>f i j).symm
theorem SQ(n q:Nat)(g:Nat->Nat):S n (fun p=>if p<q then g p else 0)=S (min n q) g:=by
 induction n with
 |zero=>rw[Nat.zero_min];rfl
 |succ n ih=>
  rw[jH,ih]
  by_cases h:n<q
  ·rw[if_pos h,show min n q=n by omega,show min (n+1) q=n+1 by omega,jH]
  ·rw[if_neg h,show min n q=q by omega,show min (n+1) q=q by omega]
   rfl
theorem JC{n:Nat}{r s:List Int}(h:Iv n r s)(f:Nat->Nat):S n (fun v=>f (aa s v).toNat)=S n f:=by
 unfold S
 have p:((range n).map fun v=>(aa s v).toNat).Perm (range n):=by
  refine(List.perm_ext_iff_of_nodup ?_ List.nodup_range).mpr fun x=>?_
  ·unfold Nodup
   rw[pairwise_map]
   refine Pairwise.imp_of_mem ?_ List.nodup_range
   intro a b ha hb hab e
   rw[mem_range]at ha hb
   have h1:=h.sr a ha
   have h2:=h.sr b hb
   exact hab (h.Hw ha hb (by omega))
  ·rw[mem_map]
   constructor
   ·rintro⟨v,hv,rfl⟩
    rw[mem_range]at hv⊢
    have:=h.sr v hv
    omega
   ·intro hx
    rw[mem_range]at hx
    obtain⟨h1,h2,h3⟩:=h.rs x hx
    exact⟨(aa r x).toNat,mem_range.mpr (by omega),by rw[h3,toNat_natCast]⟩
 have:=(p.map f).sum_nat
 rw[map_map]at this
 exact this
def yn(x:Int)(pre:List Int):Nat:=(pre.filter fun s=>decide (x<s)).length
theorem Dk(x y:Int)(pre:List Int):yn x (pre++[y])=yn x pre+if x<y then 1 else 0:=by
 unfold yn
 rw[List.filter_append,length_append]
 congr 1
 rw[List.filter_cons]
 by_cases h:x<y
 ·rw[if_pos (decide_eq_true h),if_pos h];rfl
 ·rw[if_neg (by rw[decide_eq_true_eq];exact h),if_neg h];rfl
theorem M6{x:Int}{a b:List Int}(p:a.Perm b):yn x a=yn x b:=(p.filter _).length_eq
def Aw:List Int->List Int->Nat
 |_,[]=>0
 |pre,x::l=>yn x pre+Aw (pre++[x]) l
theorem Bx:∀(l:List Int){a b:List Int},a.Perm b->Aw a l=Aw b l
 |[],a,b,p=>rfl
 |x::l,a,b,p=>by
  unfold Aw
  rw[M6 p,Bx l (p.append_right [x])]
theorem wb:∀(l:List Int)(a:Nat)(pre:List Int),a+1<l.length->Aw pre (dA l a)+(if aa l (a+1)<aa l a then 1 else 0)=Aw pre l+(if aa l a<aa l (a+1)then 1 else 0)
 |[],a,pre,h=>by simp at h
 |[x],a,pre,h=>by simp at h
 |x::y::l,0,pre,h=>by
  show yn y pre+(yn x (pre++[y])+Aw (pre++[y]++[x]) l)+(if y<x then 1 else 0)=yn x pre+(yn y (pre++[x])+Aw (pre++[x]++[y]) l)+(if x<y then 1 else 0)
  rw[Dk,Dk,Bx l (show(pre++[y]++[x]).Perm (pre++[x]++[y])by
   rw[List.append_assoc,List.append_assoc]
   exact Perm.append_left pre (Perm.swap x y []))]
  omega
 |x::y::l,a+1,pre,h=>by
  rw[pL]
  show yn x pre+Aw (pre++[x]) (dA (y::l) a)+(if aa (y::l) (a+1)<aa (y::l) a then 1 else 0)=yn x pre+Aw (pre++[x]) (y::l)+(if aa (y::l) a<aa (y::l) (a+1)then 1 else 0)
  have:=wb (y::l) a (pre++[x]) (by simpa using h)
  omega
theorem Pk:∀(l pre:List Int),Aw pre l=S l.length fun j=>yn (aa l j) (pre++l.take j)
 |[],pre=>rfl
 |x::l,pre=>by
  rw[length_cons,Ey]
  show yn x pre+Aw (pre++[x]) l=_
  rw[Pk l (pre++[x]),show yn (aa (x::l) 0) (pre++(x::l).take 0)=yn x pre by rw[List.take_zero,append_nil];rfl]
  congr 1
  refine gk fun i _=>?_
  show yn (aa l i) (pre++[x]++l.take i)=yn (aa l i) (pre++x::l.take i)
  rw[List.append_assoc]
  rfl
theorem Ww(x:Int)(l:List Int):∀q,q<=l.length->yn x (l.take q)=S q fun p=>if x<aa l p then 1 else 0
 |0,_=>rfl
 |q+1,h=>by
  have hq:q<l.length:=by omega
  have e:l.take (q+1)=l.take q++[aa l q]:=by
   rw[take_succ,cL hq]
   rfl
  rw[e,Dk,Ww x l q (by omega),jH]
def gm(l:List Int):Nat:=Aw [] l
theorem yS(l:List Int):gm l=S l.length fun q=>S l.length fun p=>if p<q then(if aa l q<aa l p then 1 else 0)else 0:=by
 unfold gm
 rw[Pk]
 refine gk fun q hq=>?_
 rw[nil_append,Ww _ _ q (by omega),SQ,show min l.length q=q by omega]
theorem xq{n:Nat}{r s:List Int}(h:Iv n r s):gm r=gm s:=by
 rw[yS,yS,h.lr,h.ls,<-JC h (fun q=>S n fun p=>if p<q then(if aa r q<aa r p then 1 else 0)else 0),JB n n fun q p=>if p<q then(if aa s q<aa s p then 1 else 0)else 0]
 refine gk fun w hw=>?_
 rw[<-JC h (fun p=>if p<(aa s w).toNat then(if aa r (aa s w).toNat<aa r p then 1 else 0)else 0)]
 refine gk fun v hv=>?_
 obtain⟨h1,h2,h3⟩:=h.sr w hw
 obtain⟨g1,g2,g3⟩:=h.sr v hv
 rw[h3,g3]
 repeat' split
 all_goals first|rfl|omega
theorem eI{l:List Int}{i:Int}(h:0<=i)(h2:i<l.length):ju (aA l) i=some (.int (aa l i.toNat)):=by
 rw[zD,Eo h,cL (by omega)]
 rfl
theorem rh{b:D->DE->R DE}{ct:DE->R Bool}{fe:DE->R D}{e₀:DE}(P:Int->Bool):∀(w:List Int),(∀k∈w,∃e,b (.int k) e₀=.ok e/\ct e=.ok (P k)/\fe e=.ok (.int k))->cy b ct fe e₀ (aA w)=.ok (aA (w.filter P))
 |[],_=>rfl
 |k::w,h=>by
  obtain⟨e,h1,h2,h3⟩:=h k (by simp)
  have ih:=rh P w fun x hx=>h x (by simp[hx])
  rw[<-rQ]
  unfold cy
  rw[h1,R.bg,h2,R.bg,List.filter_cons]
  by_cases hp:P k=true
  ·rw[if_pos hp,if_pos hp,h3,R.bg,ih]
   rfl
  ·rw[if_neg hp,if_neg hp,ih]
theorem M7(n:Nat)(h:n<=7):Gw [.int 1,.int n]=.ok (aA ((range (n-1)).map fun i=>1+((i:Nat):Int))):=by
 rw[IZ 1 n (by omega),show((n:Int)-1).toNat=n-1 by omega,rN]
theorem M8{n:Nat}{k:Int}(h:k∈(range (n-1)).map fun i=>1+((i:Nat):Int)):∃a:Nat,k=(a:Int)+1/\a+1<n:=by
 obtain⟨i,hi,rfl⟩:=mem_map.mp h
 rw[mem_range]at hi
 exact⟨i,by omega,by omega⟩
theorem mZ{n:Nat}{r s:List Int}(h:Iv n r s){v:Nat}(hv:v<n):jF (aA r) (.int v)=.ok (.int (aa s v)):=by
 unfold jF
 rw[wX]
 obtain⟨h1,h2⟩:=h.idx hv
 show(if(v:Int)∈r then R.ok (D.int (r.idxOf (v:Int):Nat))else R.bad)=_
 rw[if_pos h1,h2]
theorem By:∀n:Nat,(replicate n [D.int 0]).flatten=aA (replicate n 0)
 |0=>rfl
 |n+1=>by
  rw[replicate_succ,flatten_cons,By n]
  rfl
theorem qj{n:Nat}{r s:List Int}(h:Iv n r s)(hn:n<=7):b8 [.lst (aA r)]=.ok (aA s):=by
 unfold b8 uW
 simp -implicitDefEqProofs only [mS,mD,mF,eg,aG,reduceAdd,reduceSub,reduceEqDiff,reduceIte,aj,ak,aL,aM,aN,aO,aR,h.lr]
 rw[wW _ _ ⟨by omega,by omega,big (by rw[toNat_natCast,length_cons,length_nil];omega)⟩,toNat_natCast]
 have e0:=By n
 rw[e0]
 simp -implicitDefEqProofs only [reduceIte,aj,ak,aL,aM,aN,aO]
 obtain⟨t,e,hj⟩:=ui (S:=List Int×Sl×Sl) (b:=kr) (fun i t=>t.1.length=n/\∀p,p<i->p<n->aa t.1 (aa r p).toNat=p) (fun t=>[.val (.lst (aA r)),.own (aA t.1),t.2.1,t.2.2]) (eY (aA r)) 0 (replicate n 0,.no,.no) ⟨length_replicate,fun p hp=>by omega⟩ (by
  rintro j ⟨l,s2,s3⟩ x ⟨hl,hs⟩ hx
  obtain⟨c,hc,rfl⟩:=yL hx
  rw[Nat.zero_add]at hs⊢
  have hjn:j<n:=by
   have:=(List.getElem?_eq_some_iff.mp hc).1
   rwa [h.lr]at this
  rw[cL (by rw[h.lr];exact hjn)]at hc
  have HB:=Option.some.inj hc
  obtain⟨h1,h2,h3⟩:=h.rs j hjn
  unfold kr
  simp -implicitDefEqProofs only [Z3,reduceIte,aj,ak,aL,aM,aN,aO]
  rw[rP (by omega) (by rw[aR];have:l.length=n:=hl;omega),zF,<-HB]
  refine⟨(l.set (aa r j).toNat j,_,_),rfl,by rw[length_set];exact hl,fun p hp hpn=>?_⟩
  obtain⟨p1,p2,p3⟩:=h.rs p hpn
  have SR:l.length=n:=hl
  show aa (l.set (aa r j).toNat j) (aa r p).toNat=p
  rw[pK (by omega)]
  by_cases ep:p=j
  ·subst ep
   rw[if_pos rfl]
  ·rw[if_neg fun z=>by rw[<-z,h3]at p3;omega]
   exact hs p (by omega) hpn)
 obtain⟨l,s2,s3⟩:=t
 obtain⟨hl,hs⟩:=hj
 dsimp only at e
 rw[e]
 have el:l=s:=by
  have MG:l.length=n:=hl
  refine aT (by rw[MG,h.ls]) fun v hv=>?_
  rw[MG]at hv
  obtain⟨h1,h2,h3⟩:=h.sr v hv
  have:=hs (aa s v).toNat (by rw[Nat.zero_add];unfold eY;rw[length_map,length_zipIdx,aR,h.lr];omega) (by omega)
  rw[h3,toNat_natCast]at this
  dsimp only at this
  omega
 rw[el]
 simp -implicitDefEqProofs only [reduceIte,aj,ak,aL,aM,aN,aO,fQ]
theorem BA(l:List Int)(hn:l.length<=7):qi [.lst (aA l)]=.ok (aA (se l)):=by
 unfold qi Eu
 simp -implicitDefEqProofs only [mS,mD,mF,eg,aG,reduceAdd,reduceSub,reduceEqDiff,reduceIte,aj,ak,aL,aM,aN,aO,aR]
 rw[M7 _ hn]
 simp -implicitDefEqProofs only [reduceIte,aj,ak,aL,aM,aN,aO,fO]
 rw[rh (fun k=>decide (aa l k.toNat<aa l (k-1).toNat)) _ fun k hk=>⟨_,fR _ _ _,by
  obtain⟨a,rfl,ha⟩:=M8 hk
  unfold xg jQ
  simp -implicitDefEqProofs only [reduceIte,aj,ak,aL,aM,aN,aO]
  rw[eI (by omega) (by omega),eI (by omega) (by omega)]
  simp -implicitDefEqProofs only [reduceIte,aj,ak,aL,aM,aN,aO],by
  unfold xh jQ
  simp -implicitDefEqProofs only [reduceIte,aj,ak,aL,aM,aN,aO]⟩]
 simp -implicitDefEqProofs only [reduceIte,aj,ak,aL,aM,aN,aO,R.kC]
 have hd:=M4 l
 rw[show List.filter _ _=se l from rfl,fz (by omega)]
 simp -implicitDefEqProofs only [reduceIte,aj,ak,aL,aM,aN,aO,fQ]
theorem ur{n:Nat}{r s:List Int}(h:Iv n r s)(hn:n<=7):ky [.lst (aA r)]=.ok (aA (se s)):=by
 unfold ky Br
 simp -implicitDefEqProofs only [mS,mD,mF,eg,aG,reduceAdd,reduceSub,reduceEqDiff,reduceIte,aj,ak,aL,aM,aN,aO]
 rw[qj h hn]
 simp -implicitDefEqProofs only [reduceIte,aj,ak,aL,aM,aN,aO]
 rw[BA s (by rw[h.ls];exact hn)]
 simp -implicitDefEqProofs only [reduceIte,aj,ak,aL,aM,aN,aO,fQ]
theorem uu{l:List Int}(hn:l.length<=7){a:Nat}(ha:a+1<l.length):aQ [.lst (aA l),.int ((a:Int)+1)]=.ok (aA (dA l a)):=by
 unfold aQ g7
 simp -implicitDefEqProofs only [mS,mD,mF,eg,aG,reduceAdd,reduceSub,reduceEqDiff,reduceIte,aj,ak,aL,aM,aN,aO,vY]
 rw[C4 _ _ (by omega),Jc _ _ (by omega),eI (by omega) (by omega),eI (by omega) (by omega),show((a:Int)+1-1).toNat=a by omega,show((a:Int)+1+1).toNat=a+2 by omega,show((a:Int)+1).toNat=a+1 by omega]
 simp -implicitDefEqProofs only [reduceIte,aj,ak,aL,aM,aN,aO]
 rw[show[D.int (aa l (a+1)),D.int (aa l a)]=aA [aa l (a+1),aa l a]from rfl,qh,fz (by simp -implicitDefEqProofs only [length_append,length_take,length_cons,length_nil];omega)]
 simp -implicitDefEqProofs only [reduceIte,aj,ak,aL,aM,aN,aO]
 rw[qh,Ex l a ha,fz (by rw[fE];omega)]
 simp -implicitDefEqProofs only [reduceIte,aj,ak,aL,aM,aN,aO,fQ]
theorem BC{n:Nat}{r s:List Int}(h:Iv n r s)(hn:n<=7){a:Nat}(ha:a+1<n):bq [.lst (aA r),.int ((a:Int)+1)]=.ok (aA (nR r a)):=by
 unfold bq iO
 simp -implicitDefEqProofs only [mS,mD,mF,eg,aG,reduceAdd,reduceSub,reduceEqDiff,reduceIte,aj,ak,aL,aM,aN,aO]
 rw[qj h hn]
 simp -implicitDefEqProofs only [reduceIte,aj,ak,aL,aM,aN,aO]
 rw[uu (by rw[h.ls];exact hn) (by rw[h.ls];exact ha)]
 simp -implicitDefEqProofs only [reduceIte,aj,ak,aL,aM,aN,aO]
 rw[qj (h.step ha).symm hn]
 simp -implicitDefEqProofs only [reduceIte,aj,ak,aL,aM,aN,aO,fQ]
abbrev RP:=List Int×List Int
structure Ad where
 dx:Addr
 kn:Addr
 nu:Addr
 fi:Addr
 la:Addr
 sh:Addr
 lo:Addr
 ke:Addr
 li:Addr
 ks:List Addr
def Ad.hd (A:Ad):List Addr:=[A.dx,A.kn,A.nu,A.fi,A.la,A.sh,A.lo,A.ke,A.li]
def Ad.all (A:Ad):List Addr:=A.hd++A.ks
def vC(A:Ad):List (Str×V):=[("known",.ref A.kn),("numbers",.ref A.nu),("firsts",.ref A.fi),("lasts",.ref A.la),("shorter",.ref A.sh),("longer",.ref A.lo),("kept",.ref A.ke),("line",.ref A.li)]
def kk(r:List Int):List Key:=r.map Sum.inl
theorem aaw(r:List Int):(kk r).map kV=r.map V.int:=by unfold kk;rw[map_map];rfl
theorem JD{r s:List Int}(h:kk r=kk s):r=s:=by
 unfold kk at h
 exact(List.map_inj_right (fun x y e=>Sum.inl.inj e)).mp h
def Dl(ks:List Int):Int:=ks.foldl (fun b k=>Builtin.bitOr b (1*2^(k-1).toNat)) 0
def vD(l:List Int):Int:=Dl (se l)
def o4(p:RP)(a:Nat):RP:=(dA p.1 a,nR p.2 a)
def rm(p:RP)(a:Nat):RP:=(nR p.1 a,dA p.2 a)
def kZ(p q:RP):List Int:=(se q.2).filter fun k=> !decide (k∈se p.1)
def cF:Nat->RP->RP->RP×RP
 |0,p,q=>(p,q)
 |f+1,p,q=>match (kZ p q).getLast? with
  |none=>(p,q)
  |some k=>cF f (o4 p (k-1).toNat) (rm q (k-1).toNat)
theorem Iv.uniq {n:Nat}{r r' s:List Int}(h:Iv n r s)(g:Iv n r' s):r=r':=by
 refine aT (by rw[h.lr,g.lr]) fun j hj=>?_
 obtain⟨a1,a2,a3⟩:=h.rs j (by rw[h.lr]at hj;exact hj)
 obtain⟨b1,b2,b3⟩:=g.sr (aa r j).toNat (by omega)
 rw[a3,toNat_natCast]at b3
 omega
theorem jS{n:Nat}{p q:RP}(h:Iv n p.1 p.2)(g:Iv n q.1 q.2)(e:p.1=q.1):p=q:=by
 have h':=h.symm
 rw[e]at h'
 exact Prod.ext e (Iv.uniq h' g.symm)
structure iI(C:Addr)(H:Hp)(a:Addr)(A:Ad)(ex:List (Str×V))(n:Nat)(kn:List RP)(ln:List Int)(B:Nat)(nu sh lo ke:List (List Key×V)):Prop where
 ob:H a=some (.ins C A.dx (vC A++ex))
 dx:∃o,H A.dx=some o
 nd:(a::A.all).Nodup
 hkn:H A.kn=some (.lst (A.ks.map V.ref))
 BD:A.ks.length=kn.length
 hks:∀(i:Nat)(b:Addr)(p:RP),A.ks[i]?=some b->kn[i]?=some p->H b=some (.lst (p.1.map V.int))
 yo:H A.nu=some (.dT nu)
 xX:H A.fi=some (.lst (kn.map fun p=>V.int (vD p.2)))
 hla:H A.la=some (.lst (kn.map fun p=>V.int (vD p.1)))
 hsh:H A.sh=some (.dT sh)
 hlo:H A.lo=some (.dT lo)
 hke:H A.ke=some (.dT ke)
 hli:H A.li=some (.lst (ln.map V.int))
 rw:∀p∈kn,Iv n p.1 p.2
 n1:∀(i:Nat)(p:RP),kn[i]?=some p->cZ nu (kk p.1)=some (.int i)
 n2:∀r:List Int,(∀p∈kn,p.1≠r)->cZ nu (kk r)=none
 s1:∀(i:Nat)(k:Int)(v:V),cZ sh [.inl (i:Int),.inl k]=some v->∃(j:Nat)(p:RP),kn[i]?=some p/\kn[j]?=some (rm p (k-1).toNat)/\v=.int j
 l1:∀(i:Nat)(k:Int)(v:V),cZ lo [.inl (i:Int),.inl k]=some v->∃(j:Nat)(p:RP),kn[i]?=some p/\kn[j]?=some (o4 p (k-1).toNat)/\v=.int j
 k1:∀(i j:Nat)(v:V),cZ ke [.inl (i:Int),.inl (j:Int)]=some v->∃(t:Addr)(i' j':Nat)(p q:RP),kn[i]?=some p/\kn[j]?=some q/\v=.ref t/\H t=some (.tup [.int i',.int j'])/\kn[i']?=some (cF 50 p q).1/\kn[j']?=some (cF 50 p q).2
 z:kn.length<=B/\nu.length<=B/\sh.length<=B/\lo.length<=B/\ke.length<=B
 li:∀m∈ln,0<=m/\m<kn.length
theorem iI.same {C:Addr}{H H':Hp}{a:Addr}{A:Ad}{ex:List (Str×V)}{n:Nat}{kn:List RP}{ln:List Int}{B:Nat}{nu sh lo ke:List (List Key×V)}(c:iI C H a A ex n kn ln B nu sh lo ke)(s:aH H H'):iI C H' a A ex n kn ln B nu sh lo ke:=
 ⟨s _ _ c.ob,let⟨o,h⟩:=c.dx;⟨o,s _ _ h⟩,c.nd,s _ _ c.hkn,c.BD,fun i b p e1 e2=>s _ _ (c.hks i b p e1 e2),s _ _ c.yo,s _ _ c.xX,s _ _ c.hla,s _ _ c.hsh,s _ _ c.hlo,s _ _ c.hke,s _ _ c.hli,c.rw,c.n1,c.n2,c.s1,c.l1,
  fun i j v e=>by
   obtain⟨t,i',j',p,q,h1,h2,h3,h4,h5⟩:=c.k1 i j v e
   exact⟨t,i',j',p,q,h1,h2,h3,s _ _ h4,h5⟩,c.z,c.li⟩
theorem iI.more {C:Addr}{H:Hp}{a:Addr}{A:Ad}{ex:List (Str×V)}{n:Nat}{kn:List RP}{ln:List Int}{B B':Nat}{nu sh lo ke:List (List Key×V)}(c:iI C H a A ex n kn ln B nu sh lo ke)(h:B<=B'):iI C H a A ex n kn ln B' nu sh lo ke:=
 {c with z:=by have:=c.z;omega}
theorem iI.SS {C:Addr}{H:Hp}{a:Addr}{A:Ad}{ex:List (Str×V)}{n:Nat}{kn:List RP}{ln:List Int}{B:Nat}{nu sh lo ke:List (List Key×V)}(c:iI C H a A ex n kn ln B nu sh lo ke):
  (A.kn≠A.fi/\A.kn≠A.la/\A.kn≠A.li/\A.fi≠A.la/\A.fi≠A.li/\A.la≠A.li)/\(A.nu≠A.sh/\A.nu≠A.lo/\A.nu≠A.ke/\A.sh≠A.lo/\A.sh≠A.ke/\A.lo≠A.ke)/\
  (∀b∈A.ks,b≠A.kn/\b≠A.fi/\b≠A.la/\b≠A.li)/\(A.dx≠A.kn/\A.dx≠A.nu/\A.dx≠A.fi/\A.dx≠A.la/\A.dx≠A.sh/\A.dx≠A.lo/\A.dx≠A.ke/\A.dx≠A.li/\a≠A.dx)/\(∀b∈A.ks,b≠A.dx):=by
 have nd:=c.nd
 unfold Ad.all Ad.hd at nd
 simp only [cons_append,nil_append,nodup_cons,mem_cons,not_or]at nd
 obtain⟨⟨a1,a2⟩,⟨d1,d2,d3,d4,d5,d6,d7,d8,d9⟩,⟨k1,k2,k3,k4,k5,k6,k7,k8⟩,⟨n1,n2,n3,n4,n5,n6,n7⟩,⟨f1,f2,f3,f4,f5,f6⟩,⟨l1,l2,l3,l4,l5⟩,⟨s1,s2,s3,s4⟩,⟨o1,o2,o3⟩,⟨e1,e2⟩,i1,_⟩:=nd
 refine⟨⟨k2,k3,k7,f1,f5,l4⟩,⟨n3,n4,n5,s1,s2,o1⟩,fun b hb=>⟨fun z=>k8 (z▸hb),fun z=>f6 (z▸hb),fun z=>l5 (z▸hb),fun z=>i1 (z▸hb)⟩,⟨d1,d2,d3,d4,d5,d6,d7,d8,a1⟩,fun b hb z=>d9 (z▸hb)⟩
structure iJ(H H':Hp)(F F':List Addr):Prop where
 kp:∀x o,x∉F->H x=some o->H' x=some o
 nw:∀x∈F',x∈F\/H x=none
 gr:∀x,H' x=none->H x=none
theorem iJ.refl (H:Hp)(F:List Addr):iJ H H F F:=⟨fun _ _ _ h=>h,fun _ h=>.inl h,fun _ h=>h⟩
theorem iJ.trans {H H1 H2:Hp}{F F1 F2:List Addr}(a:iJ H H1 F F1)(b:iJ H1 H2 F1 F2):iJ H H2 F F2:=
 ⟨fun x o hx h=>b.kp x o (fun z=>(a.nw x z).elim hx fun q=>by rw[h]at q;cases q) (a.kp x o hx h),fun x hx=>(b.nw x hx).elim (fun z=>a.nw x z) fun z=>.inr (a.gr x z),fun x hx=>a.gr x (b.gr x hx)⟩
theorem iJ.same {H H1:Hp}(s:aH H H1)(F:List Addr):iJ H H1 F F:=⟨fun x o _ h=>s x o h,fun _ h=>.inl h,fun _ h=>s.free h⟩
theorem iJ.upd {H:Hp}{F:List Addr}{x:Addr}(hx:x∈F)(o:HO):iJ H (upd H x o) F F:=⟨fun y o' hy h=>by rw[ah (fun z=>hy (by rw[z];exact hx))];exact h,fun _ h=>.inl h,fun y hy=>by
 by_cases z:y=x
 ·rw[z,ar]at hy;cases hy
 ·rw[ah z]at hy;exact hy⟩
theorem iI.there {C:Addr}{H:Hp}{a:Addr}{A:Ad}{ex:List (Str×V)}{n:Nat}{kn:List RP}{ln:List Int}{B:Nat}{nu sh lo ke:List (List Key×V)}(c:iI C H a A ex n kn ln B nu sh lo ke){x:Addr}(hx:x∈a::A.all):∃o,H x=some o:=by
 rcases mem_cons.mp hx with rfl|hx
 ·exact⟨_,c.ob⟩
 ·rcases mem_append.mp hx with hx|hx
  ·unfold Ad.hd at hx
   simp only [mem_cons,not_mem_nil,or_false]at hx
   rcases hx with rfl|rfl|rfl|rfl|rfl|rfl|rfl|rfl|rfl
   ·exact c.dx
   ·exact⟨_,c.hkn⟩
   ·exact⟨_,c.yo⟩
   ·exact⟨_,c.xX⟩
   ·exact⟨_,c.hla⟩
   ·exact⟨_,c.hsh⟩
   ·exact⟨_,c.hlo⟩
   ·exact⟨_,c.hke⟩
   ·exact⟨_,c.hli⟩
  ·obtain⟨i,hi,ei⟩:=getElem_of_mem hx
   exact⟨_,c.hks i x (kn[i]'(by rw[<-c.BD];exact hi)) (by rw[getElem?_eq_getElem hi,ei]) (getElem?_eq_getElem (by rw[<-c.BD];exact hi))⟩
theorem pM{α:Type}{l:List α}{x y:α}{i:Nat}(e:(l++[x])[i]?=some y)(h:¬i<l.length):i=l.length/\x=y:=by
 have h1:=(List.getElem?_eq_some_iff.mp e).1
 rw[length_append,length_singleton]at h1
 have h2:i=l.length:=by omega
 subst h2
 exact⟨rfl,by simpa using e⟩
theorem bV{α:Type}{l m:List α}{x:α}{i:Nat}(e:l[i]?=some x):(l++m)[i]?=some x:=by
 rw[getElem?_append_left (List.getElem?_eq_some_iff.mp e).1]
 exact e
theorem iI.add {C:Addr}{H H9:Hp}{a:Addr}{A:Ad}{ex:List (Str×V)}{n:Nat}{kn:List RP}{ln:List Int}{B:Nat}{nu sh lo ke:List (List Key×V)}(c:iI C H a A ex n kn ln B nu sh lo ke){p:RP}(hm:¬∃q∈kn,q.1=p.1)(iv:Iv n p.1 p.2){l2:Addr}(Uq:H l2=none)
  (Yc:H9 a=some (.ins C A.dx (vC A++ex)))(Yd:H9 A.nu=some (.dT (putK nu (kk p.1) (.int (kn.length:Int)))))(kn9:H9 A.kn=some (.lst (A.ks.map V.ref++[.ref l2])))
  (fi9:H9 A.fi=some (.lst ((kn.map fun p=>V.int (vD p.2))++[V.int (vD p.2)])))(la9:H9 A.la=some (.lst ((kn.map fun p=>V.int (vD p.1))++[V.int (vD p.1)])))(l29:H9 l2=some (.lst (p.1.map V.int)))
  (keep:∀x o,x≠A.nu->x≠A.kn->x≠A.fi->x≠A.la->H x=some o->H9 x=some o):iI C H9 a {A with ks:=A.ks++[l2]} ex n (kn++[p]) ln (B+1) (putK nu (kk p.1) (.int (kn.length:Int))) sh lo ke:=by
 have yp:∀j,cZ (putK nu (kk p.1) (.int (kn.length:Int))) j=if j=kk p.1 then some (.int (kn.length:Int))else cZ nu j:=fun j=>ko nu (kk p.1) j _
 have hz:(kn++[p]).length<=B+1/\(putK nu (kk p.1) (.int (kn.length:Int))).length<=B+1/\sh.length<=B+1/\lo.length<=B+1/\ke.length<=B+1:=by
  have h0:=c.z
  have h1:=gJ nu (kk p.1) (.int (kn.length:Int))
  rw[length_append,length_singleton]
  omega
 have hli:∀m∈ln,0<=m/\m<((kn++[p]).length:Int):=fun m hm'=>by
  have:=c.li m hm'
  rw[length_append]
  omega
 have nl:∀{x y:Addr}{xs:List V}{kv:List (List Key×V)},H x=some (.lst xs)->H y=some (.dT kv)->x≠y:=fun h1 h2=>bO h1 h2 (by intro z;cases z)
 obtain⟨⟨n1,n2,n3,n4,n5,n6⟩,⟨m1,m2,m3,m4,m5,m6⟩,SV,⟨d1,d2,d3,d4,d5,d6,d7,d8,d9⟩,Wx⟩:=c.SS
 refine⟨Yc,?_,?_,by rw[map_append];exact kn9,by rw[length_append,length_append,c.BD];rfl,fun i b' q' e1 e2=>?_,Yd,by rw[map_append];exact fi9,by rw[map_append];exact la9,
  keep _ _ (Ne.symm m1) (Ne.symm (nl c.hkn c.hsh)) (Ne.symm (nl c.xX c.hsh)) (Ne.symm (nl c.hla c.hsh)) c.hsh,
  keep _ _ (Ne.symm m2) (Ne.symm (nl c.hkn c.hlo)) (Ne.symm (nl c.xX c.hlo)) (Ne.symm (nl c.hla c.hlo)) c.hlo,
  keep _ _ (Ne.symm m3) (Ne.symm (nl c.hkn c.hke)) (Ne.symm (nl c.xX c.hke)) (Ne.symm (nl c.hla c.hke)) c.hke,
  keep _ _ (nl c.hli c.yo) (Ne.symm n3) (Ne.symm n5) (Ne.symm n6) c.hli,fun q' Hi=>?_,fun i q' e=>?_,fun r hr'=>?_,fun i k' v e=>?_,fun i k' v e=>?_,fun i j v e=>?_,hz,hli⟩
 ·obtain⟨o,ho⟩:=c.dx
  exact⟨o,keep _ _ d2 d1 d3 d4 ho⟩
 ·show(a::(A.hd++(A.ks++[l2]))).Nodup
  rw[<-List.append_assoc,<-cons_append,List.nodup_append]
  refine⟨c.nd,by simp,fun x hx y hy=>?_⟩
  have ey:y=l2:=by simpa using hy
  rw[ey]
  intro z
  obtain⟨o,ho⟩:=c.there hx
  rw[z,Uq]at ho
  cases ho
 ·have Mg:(A.ks++[l2])[i]?=some b':=e1
  by_cases hi:i<kn.length
  ·rw[getElem?_append_left (by rw[c.BD];exact hi)]at Mg
   rw[getElem?_append_left hi]at e2
   have Gy:=SV b' (mem_of_getElem? Mg)
   have hbH:=c.hks i b' q' Mg e2
   exact keep _ _ (nl hbH c.yo) Gy.1 Gy.2.1 Gy.2.2.1 hbH
  ·obtain⟨_,z2⟩:=pM e2 hi
   obtain⟨_,z1⟩:=pM Mg (by rw[c.BD];exact hi)
   rw[<-z1,<-z2]
   exact l29
 ·rcases mem_append.mp Hi with h|h
  ·exact c.rw q' h
  ·have:q'=p:=by simpa using h
   rw[this];exact iv
 ·rw[yp]
  by_cases hi:i<kn.length
  ·rw[getElem?_append_left hi]at e
   have hne:¬kk q'.1=kk p.1:=fun z=>hm ⟨q',mem_of_getElem? e,JD z⟩
   rw[if_neg hne]
   exact c.n1 i q' e
  ·obtain⟨z1,z2⟩:=pM e hi
   rw[<-z2,if_pos rfl,z1]
 ·rw[yp,if_neg (fun z=>hr' p (by simp) (JD z).symm)]
  exact c.n2 r fun q' Hi=>hr' q' (by simp[Hi])
 ·obtain⟨j,p',h1,h2,h3⟩:=c.s1 i k' v e
  exact⟨j,p',bV h1,bV h2,h3⟩
 ·obtain⟨j,p',h1,h2,h3⟩:=c.l1 i k' v e
  exact⟨j,p',bV h1,bV h2,h3⟩
 ·obtain⟨t',i',j',p',q',h1,h2,h3,h4,h5,h6⟩:=c.k1 i j v e
  have nt:∀{y:Addr}{xs:List V},H y=some (.lst xs)->t'≠y:=fun h=>bO h4 h (by intro z;cases z)
  exact⟨t',i',j',p',q',bV h1,bV h2,h3,keep _ _ (bO h4 c.yo (by intro z;cases z)) (nt c.hkn) (nt c.xX) (nt c.hla) h4,bV h5,bV h6⟩
theorem iI.SW {C:Addr}{H:Hp}{a:Addr}{A:Ad}{ex:List (Str×V)}{n:Nat}{kn:List RP}{ln:List Int}{B:Nat}{nu sh lo ke:List (List Key×V)}(c:iI C H a A ex n kn ln B nu sh lo ke){i j:Nat}{k:Int}{p:RP}(hi:kn[i]?=some p)(hj:kn[j]?=some (rm p (k-1).toNat)):
  iI C (upd H A.sh (.dT (putK sh [.inl (i:Int),.inl k] (.int j)))) a A ex n kn ln (B+1) nu (putK sh [.inl (i:Int),.inl k] (.int j)) lo ke:=by
 have hz:kn.length<=B+1/\nu.length<=B+1/\(putK sh ([.inl (i:Int),.inl k]:List Key) (.int j)).length<=B+1/\lo.length<=B+1/\ke.length<=B+1:=by
  have h0:=c.z
  have h1:=gJ sh ([.inl (i:Int),.inl k]:List Key) (.int j)
  omega
 have yp:∀x,cZ (putK sh ([.inl (i:Int),.inl k]:List Key) (.int j)) x=if x=[.inl (i:Int),.inl k]then some (.int j)else cZ sh x:=fun x=>ko sh _ x _
 have nl:∀{x:Addr}{xs:List V},H x=some (.lst xs)->x≠A.sh:=fun h1=>bO h1 c.hsh (by intro z;cases z)
 obtain⟨_,⟨m1,m2,m3,m4,m5,m6⟩,SV,⟨d1,d2,d3,d4,d5,d6,d7,d8,d9⟩,Wx⟩:=c.SS
 have kp:∀x o,x≠A.sh->H x=some o->(upd H A.sh (.dT (putK sh [.inl (i:Int),.inl k] (.int j)))) x=some o:=fun x o hx h=>by rw[ah hx];exact h
 have sem:∀(i':Nat)(k':Int)(v:V),cZ (putK sh ([.inl (i:Int),.inl k]:List Key) (.int j)) [.inl (i':Int),.inl k']=some v->∃(j:Nat)(p:RP),kn[i']?=some p/\kn[j]?=some (rm p (k'-1).toNat)/\v=.int j:=fun i' k' v e=>by
  rw[yp]at e
  split at e
  ·rename_i z
   injection z with z1 z2
   injection z2 with z2 _
   have q1:(i':Int)=i:=Sum.inl.inj z1
   have q2:k'=k:=Sum.inl.inj z2
   have q3:i'=i:=by omega
   subst q2 q3
   cases e
   exact⟨j,p,hi,hj,rfl⟩
  ·exact c.s1 i' k' v e
 refine⟨kp _ _ (bO c.ob c.hsh (by intro z;cases z)) c.ob,?_,c.nd,kp _ _ (nl c.hkn) c.hkn,c.BD,fun i b p e1 e2=>kp _ _ (nl (c.hks i b p e1 e2)) (c.hks i b p e1 e2),kp _ _ m1 c.yo,kp _ _ (nl c.xX) c.xX,kp _ _ (nl c.hla) c.hla,ar,kp _ _ (Ne.symm m4) c.hlo,kp _ _ (Ne.symm m5) c.hke,kp _ _ (nl c.hli) c.hli,c.rw,c.n1,c.n2,sem,c.l1,fun i j v e=>?_,hz,c.li⟩
 ·obtain⟨o,h⟩:=c.dx
  exact⟨o,kp _ _ d5 h⟩
 ·obtain⟨t,i',j',p,q,h1,h2,h3,h4,h5⟩:=c.k1 i j v e
  exact⟨t,i',j',p,q,h1,h2,h3,kp _ _ (bO h4 c.hsh (by intro z;cases z)) h4,h5⟩
theorem iI.SX {C:Addr}{H:Hp}{a:Addr}{A:Ad}{ex:List (Str×V)}{n:Nat}{kn:List RP}{ln:List Int}{B:Nat}{nu sh lo ke:List (List Key×V)}(c:iI C H a A ex n kn ln B nu sh lo ke){i j:Nat}{k:Int}{p:RP}(hi:kn[i]?=some p)(hj:kn[j]?=some (o4 p (k-1).toNat)):
  iI C (upd H A.lo (.dT (putK lo [.inl (i:Int),.inl k] (.int j)))) a A ex n kn ln (B+1) nu sh (putK lo [.inl (i:Int),.inl k] (.int j)) ke:=by
 have hz:kn.length<=B+1/\nu.length<=B+1/\sh.length<=B+1/\(putK lo ([.inl (i:Int),.inl k]:List Key) (.int j)).length<=B+1/\ke.length<=B+1:=by
  have h0:=c.z
  have h1:=gJ lo ([.inl (i:Int),.inl k]:List Key) (.int j)
  omega
 have yp:∀x,cZ (putK lo ([.inl (i:Int),.inl k]:List Key) (.int j)) x=if x=[.inl (i:Int),.inl k]then some (.int j)else cZ lo x:=fun x=>ko lo _ x _
 have nl:∀{x:Addr}{xs:List V},H x=some (.lst xs)->x≠A.lo:=fun h1=>bO h1 c.hlo (by intro z;cases z)
 obtain⟨_,⟨m1,m2,m3,m4,m5,m6⟩,SV,⟨d1,d2,d3,d4,d5,d6,d7,d8,d9⟩,Wx⟩:=c.SS
 have kp:∀x o,x≠A.lo->H x=some o->(upd H A.lo (.dT (putK lo [.inl (i:Int),.inl k] (.int j)))) x=some o:=fun x o hx h=>by rw[ah hx];exact h
 have sem:∀(i':Nat)(k':Int)(v:V),cZ (putK lo ([.inl (i:Int),.inl k]:List Key) (.int j)) [.inl (i':Int),.inl k']=some v->∃(j:Nat)(p:RP),kn[i']?=some p/\kn[j]?=some (o4 p (k'-1).toNat)/\v=.int j:=fun i' k' v e=>by
  rw[yp]at e
  split at e
  ·rename_i z
   injection z with z1 z2
   injection z2 with z2 _
   have q1:(i':Int)=i:=Sum.inl.inj z1
   have q2:k'=k:=Sum.inl.inj z2
   have q3:i'=i:=by omega
   subst q2 q3
   cases e
   exact⟨j,p,hi,hj,rfl⟩
  ·exact c.l1 i' k' v e
 refine⟨kp _ _ (bO c.ob c.hlo (by intro z;cases z)) c.ob,?_,c.nd,kp _ _ (nl c.hkn) c.hkn,c.BD,fun i b p e1 e2=>kp _ _ (nl (c.hks i b p e1 e2)) (c.hks i b p e1 e2),kp _ _ m2 c.yo,kp _ _ (nl c.xX) c.xX,kp _ _ (nl c.hla) c.hla,kp _ _ m4 c.hsh,ar,kp _ _ (Ne.symm m6) c.hke,kp _ _ (nl c.hli) c.hli,c.rw,c.n1,c.n2,c.s1,sem,fun i j v e=>?_,hz,c.li⟩
 ·obtain⟨o,h⟩:=c.dx
  exact⟨o,kp _ _ d6 h⟩
 ·obtain⟨t,i',j',p,q,h1,h2,h3,h4,h5⟩:=c.k1 i j v e
  exact⟨t,i',j',p,q,h1,h2,h3,kp _ _ (bO h4 c.hlo (by intro z;cases z)) h4,h5⟩
theorem iI.SY {C:Addr}{H:Hp}{a:Addr}{A:Ad}{ex:List (Str×V)}{n:Nat}{kn:List RP}{ln:List Int}{B:Nat}{nu sh lo ke:List (List Key×V)}(c:iI C H a A ex n kn ln B nu sh lo ke){i j i' j':Nat}{p q:RP}{t:Addr}(hi:kn[i]?=some p)(hj:kn[j]?=some q)(ht:H t=some (.tup [.int i',.int j']))(wM:kn[i']?=some (cF 50 p q).1)(Dh:kn[j']?=some (cF 50 p q).2):
  iI C (upd H A.ke (.dT (putK ke [.inl (i:Int),.inl (j:Int)] (.ref t)))) a A ex n kn ln (B+1) nu sh lo (putK ke [.inl (i:Int),.inl (j:Int)] (.ref t)):=by
 have hz:kn.length<=B+1/\nu.length<=B+1/\sh.length<=B+1/\lo.length<=B+1/\(putK ke ([.inl (i:Int),.inl (j:Int)]:List Key) (.ref t)).length<=B+1:=by
  have h0:=c.z
  have h1:=gJ ke ([.inl (i:Int),.inl (j:Int)]:List Key) (.ref t)
  omega
 have yp:∀x,cZ (putK ke ([.inl (i:Int),.inl (j:Int)]:List Key) (.ref t)) x=if x=[.inl (i:Int),.inl (j:Int)]then some (.ref t)else cZ ke x:=fun x=>ko ke _ x _
 have nl:∀{x:Addr}{xs:List V},H x=some (.lst xs)->x≠A.ke:=fun h1=>bO h1 c.hke (by intro z;cases z)
 have nt:∀{x:Addr}{xs:List V},H x=some (.tup xs)->x≠A.ke:=fun h1=>bO h1 c.hke (by intro z;cases z)
 obtain⟨_,⟨m1,m2,m3,m4,m5,m6⟩,SV,⟨d1,d2,d3,d4,d5,d6,d7,d8,d9⟩,Wx⟩:=c.SS
 have kp:∀x o,x≠A.ke->H x=some o->(upd H A.ke (.dT (putK ke [.inl (i:Int),.inl (j:Int)] (.ref t)))) x=some o:=fun x o hx h=>by rw[ah hx];exact h
 refine⟨kp _ _ (bO c.ob c.hke (by intro z;cases z)) c.ob,?_,c.nd,kp _ _ (nl c.hkn) c.hkn,c.BD,fun i b p e1 e2=>kp _ _ (nl (c.hks i b p e1 e2)) (c.hks i b p e1 e2),kp _ _ m3 c.yo,kp _ _ (nl c.xX) c.xX,kp _ _ (nl c.hla) c.hla,kp _ _ m5 c.hsh,kp _ _ m6 c.hlo,ar,kp _ _ (nl c.hli) c.hli,c.rw,c.n1,c.n2,c.s1,c.l1,fun x y v e=>?_,hz,c.li⟩
 ·obtain⟨o,h⟩:=c.dx
  exact⟨o,kp _ _ d7 h⟩
 ·rw[yp]at e
  split at e
  ·rename_i z
   injection z with z1 z2
   injection z2 with z2 _
   have q1:(x:Int)=i:=Sum.inl.inj z1
   have q2:(y:Int)=j:=Sum.inl.inj z2
   have q3:x=i:=by omega
   have q4:y=j:=by omega
   subst q3 q4
   cases e
   exact⟨t,i',j',p,q,hi,hj,rfl,kp _ _ (nt ht) ht,wM,Dh⟩
  ·obtain⟨t,i',j',p,q,h1,h2,h3,h4,h5⟩:=c.k1 x y v e
   exact⟨t,i',j',p,q,h1,h2,h3,kp _ _ (nt h4) h4,h5⟩
section
variable{A:Ad}{ex:List (Str×V)}
theorem yT:(vC A++ex).lookup ("known":Str)=some (.ref A.kn):=rfl
theorem Ez:(vC A++ex).lookup ("numbers":Str)=some (.ref A.nu):=rfl
theorem JE:(vC A++ex).lookup ("firsts":Str)=some (.ref A.fi):=rfl
theorem JF:(vC A++ex).lookup ("lasts":Str)=some (.ref A.la):=rfl
theorem EA:(vC A++ex).lookup ("shorter":Str)=some (.ref A.sh):=rfl
theorem EB:(vC A++ex).lookup ("longer":Str)=some (.ref A.lo):=rfl
theorem JG:(vC A++ex).lookup ("kept":Str)=some (.ref A.ke):=rfl
theorem BE:(vC A++ex).lookup ("line":Str)=some (.ref A.li):=rfl
end
def u9(z w:Int):List (Str×V):=[("none",.int z),("whole",.int w)]
theorem Pn{A:Ad}{z w:Int}:(vC A++u9 z w).lookup ("none":Str)=some (.int z):=rfl
theorem Wy{A:Ad}{z w:Int}:(vC A++u9 z w).lookup ("whole":Str)=some (.int w):=rfl
abbrev six:List Int:=[1,2,3,4,5,6]
def S2(l:List (Int×Bool)):List Int:=(l.filter (·.2)).map (·.1)
def sel(b1 b2 b3 b4 b5 b6:Bool):List Int:=S2 [(1,b1),(2,b2),(3,b3),(4,b4),(5,b5),(6,b6)]
theorem xr(f:Int->Bool):∀l:List Int,l.filter f=S2 (l.map fun k=>(k,f k))
 |[]=>rfl
 |k::l=>by
  have ih:=xr f l
  unfold S2 at ih⊢
  rw[map_cons]
  cases h:f k with
  |true=>rw[List.filter_cons_of_pos h,List.filter_cons_of_pos (by rfl),map_cons,ih]
  |false=>rw[List.filter_cons_of_neg (by rw[h];decide),List.filter_cons_of_neg (by simp),ih]
theorem si(f:Int->Bool):six.filter f=sel (f 1) (f 2) (f 3) (f 4) (f 5) (f 6):=xr f six
theorem M9(f:Int->Bool):∀m:Nat,m<=7->((range (m-1)).map fun i=>1+((i:Nat):Int)).filter f=six.filter fun k=>decide (k.toNat<m)&&f k
 |0,_=>rfl
 |1,_=>rfl
 |2,_=>rfl
 |3,_=>rfl
 |4,_=>rfl
 |5,_=>rfl
 |6,_=>rfl
 |7,_=>rfl
 |m+8,h=>by omega
def Wz(l:List Int)(k:Int):Bool:=decide (k.toNat<l.length)&&decide (aa l k.toNat<aa l (k-1).toNat)
theorem wc{l:List Int}(h:l.length<=7):se l=six.filter (Wz l):=M9 _ l.length h
theorem JH:∀b1 b2 b3 b4 b5 b6 c1 c2 c3 c4 c5 c6:Bool,Builtin.bitAnd (Dl (sel b1 b2 b3 b4 b5 b6)) (Builtin.bitNot (Dl (sel c1 c2 c3 c4 c5 c6)))=Dl (sel (b1&& !c1) (b2&& !c2) (b3&& !c3) (b4&& !c4) (b5&& !c5) (b6&& !c6)):=by decide +kernel
theorem BF:∀b1 b2 b3 b4 b5 b6:Bool,decide (0<Dl (sel b1 b2 b3 b4 b5 b6))=(sel b1 b2 b3 b4 b5 b6).getLast?.isSome/\∀k∈(sel b1 b2 b3 b4 b5 b6).getLast?,((Builtin.Int.intBits (Dl (sel b1 b2 b3 b4 b5 b6)):Nat):Int)=k:=by decide +kernel
theorem zM{p q:RP}(hp:p.1.length<=7)(hq:q.2.length<=7):kZ p q=six.filter fun k=>Wz q.2 k&& !Wz p.1 k:=by
 unfold kZ
 rw[wc hq,wc hp,List.filter_filter]
 refine List.filter_congr fun k hk=>?_
 have:decide (k∈six.filter (Wz p.1))=Wz p.1 k:=by
  rw[Bool.eq_iff_iff,decide_eq_true_iff,mem_filter]
  exact⟨fun h=>h.2,fun h=>⟨hk,h⟩⟩
 rw[this,Bool.and_comm]
theorem EC{p q:RP}(hp:p.1.length<=7)(hq:q.2.length<=7):Builtin.bitAnd (vD q.2) (Builtin.bitNot (vD p.1))=Dl (kZ p q):=by
 unfold vD
 rw[wc hq,wc hp,zM hp hq,si,si,si]
 exact JH ..
theorem JI{p q:RP}(hp:p.1.length<=7)(hq:q.2.length<=7):decide (0<Dl (kZ p q))=(kZ p q).getLast?.isSome:=by
 rw[zM hp hq,si]
 exact(BF ..).1
theorem JJ{p q:RP}(hp:p.1.length<=7)(hq:q.2.length<=7){k:Int}(h:(kZ p q).getLast?=some k):((Builtin.Int.intBits (Dl (kZ p q)):Nat):Int)=k:=by
 rw[zM hp hq,si]at h⊢
 exact(BF ..).2 k h
theorem yU:∀(l pre:List Int),Aw pre l<=l.length*(pre.length+l.length)
 |[],pre=>by simp[Aw]
 |x::l,pre=>by
  have h1:yn x pre<=pre.length:=List.length_filter_le _ _
  have h2:=yU l (pre++[x])
  rw[length_append,length_singleton]at h2
  show yn x pre+Aw (pre++[x]) l<=(l.length+1)*(pre.length+(l.length+1))
  rw[Nat.add_mul,show pre.length+(l.length+1)=pre.length+1+l.length by omega]
  omega
theorem uv{n:Nat}{p:RP}(hn:n<=7)(h:Iv n p.1 p.2):gm p.1<=49:=by
 have h1:=yU p.1 []
 rw[h.lr,length_nil,Nat.zero_add]at h1
 have h2:n*n<=7*7:=Nat.mul_le_mul hn hn
 unfold gm
 omega
theorem nS{n:Nat}{p q:RP}(hp:Iv n p.1 p.2)(hq:Iv n q.1 q.2){k:Int}(h:k∈kZ p q):∃j:Nat,k=(j:Int)+1/\j+1<n/\aa p.1 j<aa p.1 (j+1)/\aa q.2 (j+1)<aa q.2 j:=by
 unfold kZ at h
 obtain⟨h1,h2⟩:=mem_filter.mp h
 obtain⟨j,e,h3,h4⟩:=lK.mp h1
 rw[hq.ls]at h3
 have h5:k∉se p.1:=by simpa using h2
 have h6:¬aa p.1 (j+1)<aa p.1 j:=fun z=>h5 (lK.mpr ⟨j,e,by rw[hp.lr];exact h3,z⟩)
 have h7:aa p.1 j≠aa p.1 (j+1):=fun z=>by
  have:=hp.symm.Hw (v:=j) (w:=j+1) (by omega) h3 z
  omega
 exact⟨j,e,h3,by omega,h4⟩
theorem dS{n:Nat}{p:RP}(h:Iv n p.1 p.2){j:Nat}(hj:j+1<n):Iv n (o4 p j).1 (o4 p j).2:=(h.symm.step hj).symm
theorem dU{n:Nat}{p:RP}(h:Iv n p.1 p.2){j:Nat}(hj:j+1<n):Iv n (rm p j).1 (rm p j).2:=h.step hj
theorem m7{p q:RP}{k:Int}(f:Nat)(h:(kZ p q).getLast?=some k):cF (f+1) p q=cF f (o4 p (k-1).toNat) (rm q (k-1).toNat):=by
 show(match (kZ p q).getLast? with
  |none=>(p,q)
  |some k=>cF f (o4 p (k-1).toNat) (rm q (k-1).toNat))=_
 rw[h]
theorem m8{p q:RP}(f:Nat)(h:(kZ p q).getLast?=none):cF f p q=(p,q):=by
 cases f with
 |zero=>rfl
 |succ f=>
  show(match (kZ p q).getLast? with
   |none=>(p,q)
   |some k=>cF f (o4 p (k-1).toNat) (rm q (k-1).toNat))=_
  rw[h]
theorem JK{n:Nat}{p:RP}(h:Iv n p.1 p.2){j:Nat}(hj:j+1<n)(hl:aa p.1 j<aa p.1 (j+1)):gm p.1<gm (o4 p j).1:=by
 have e:=wb p.1 j [] (by rw[h.lr];exact hj)
 show Aw [] p.1<Aw [] (dA p.1 j)
 rw[if_pos hl,if_neg (by omega)]at e
 omega
def nI(ls:List Nat):List Int:=ls.map fun(m:Nat)=>(m:Int)
def cM(kn:List RP)(ls:List Nat)(R:List RP):Prop:=ls.map (fun m=>kn[m]?)=R.map some
theorem cM.len {kn:List RP}{ls:List Nat}{R:List RP}(h:cM kn ls R):ls.length=R.length:=by
 have:=congrArg length h
 simpa using this
theorem cM.at {kn:List RP}{ls:List Nat}{R:List RP}(h:cM kn ls R){i:Nat}{r:RP}(e:R[i]?=some r):∃m,ls[i]?=some m/\kn[m]?=some r:=by
 have h1:(ls.map fun m=>kn[m]?)[i]?=(R.map some)[i]?:=by rw[show ls.map (fun m=>kn[m]?)=R.map some from h]
 rw[getElem?_map,getElem?_map,e]at h1
 cases h2:ls[i]? with
 |none=>rw[h2]at h1;cases h1
 |some m=>rw[h2]at h1;exact⟨m,rfl,Option.some.inj h1⟩
theorem cM.mem {kn:List RP}{ls:List Nat}{R:List RP}(h:cM kn ls R){m:Nat}(hm:m∈ls):m<kn.length:=by
 have:kn[m]?∈R.map some:=by rw[<-show ls.map (fun m=>kn[m]?)=R.map some from h];exact mem_map.mpr ⟨m,hm,rfl⟩
 obtain⟨r,_,e⟩:=mem_map.mp this
 exact(List.getElem?_eq_some_iff.mp e.symm).1
theorem cM.li {kn:List RP}{ls:List Nat}{R:List RP}(h:cM kn ls R):∀m∈nI ls,0<=m/\m<kn.length:=fun m hm=>by
 obtain⟨x,hx,rfl⟩:=mem_map.mp hm
 have:=h.mem hx
 omega
theorem cM.pre {kn mo:List RP}{ls:List Nat}{R:List RP}(h:cM kn ls R):cM (kn++mo) ls R:=by
 unfold cM
 rw[<-show ls.map (fun m=>kn[m]?)=R.map some from h]
 refine map_congr_left fun m hm=>?_
 rw[getElem?_append_left (h.mem hm)]
theorem cM.app {kn:List RP}{ls:List Nat}{R:List RP}(h:cM kn ls R){m:Nat}{r:RP}(e:kn[m]?=some r):cM kn (ls++[m]) (R++[r]):=by
 unfold cM
 rw[map_append,map_append,show ls.map (fun m=>kn[m]?)=R.map some from h]
 simp[e]
theorem cM.set {kn:List RP}{ls:List Nat}{R:List RP}(h:cM kn ls R)(i:Nat){m:Nat}{r:RP}(e:kn[m]?=some r):cM kn (ls.set i m) (R.set i r):=by
 unfold cM
 rw[map_set,map_set,show ls.map (fun m=>kn[m]?)=R.map some from h,e]
theorem cM.drop {kn:List RP}{ls:List Nat}{R:List RP}(h:cM kn ls R):cM kn ls.dropLast R.dropLast:=by
 unfold cM
 rw[map_dropLast,map_dropLast,show ls.map (fun m=>kn[m]?)=R.map some from h]
theorem mh(ls:List Nat):(nI ls).length=ls.length:=length_map _
def vE:List RP->RP->List RP
 |[],c=>[c]
 |p::ps,c=>if(cF 50 p c).1=p then c::p::ps else(cF 50 p c).2::vE ps (cF 50 p c).1
def sj(R:List RP)(p:RP):List RP:=(vE R.reverse p).reverse
def eO(n:Nat)(R:List RP)(p:RP):List RP:=if(sj R p).getLast?=some (upTo n,upTo n)then(sj R p).dropLast else sj R p
theorem ED:∀(R:List RP)(p:RP),(vE R p).length=R.length+1
 |[],p=>rfl
 |r::R,p=>by
  unfold vE
  split
  ·rfl
  ·rw[length_cons,ED R,length_cons]
theorem we(R:List RP)(p:RP):(sj R p).length=R.length+1:=by unfold sj;rw[length_reverse,ED,length_reverse]
theorem iI.BG {C:Addr}{H:Hp}{a:Addr}{A:Ad}{ex:List (Str×V)}{n:Nat}{kn:List RP}{ln:List Int}{B:Nat}{nu sh lo ke:List (List Key×V)}(c:iI C H a A ex n kn ln B nu sh lo ke){Ye:List Int}(h:∀m∈Ye,0<=m/\m<kn.length):
  iI C (upd H A.li (.lst (Ye.map V.int))) a A ex n kn Ye B nu sh lo ke:=by
 have nd:∀{x:Addr}{xs:List (List Key×V)},H x=some (.dT xs)->x≠A.li:=fun h1=>bO h1 c.hli (by intro z;cases z)
 have nt:∀{x:Addr}{xs:List V},H x=some (.tup xs)->x≠A.li:=fun h1=>bO h1 c.hli (by intro z;cases z)
 obtain⟨⟨n1,n2,n3,n4,n5,n6⟩,_,SV,⟨d1,d2,d3,d4,d5,d6,d7,d8,d9⟩,Wx⟩:=c.SS
 have kp:∀x o,x≠A.li->H x=some o->(upd H A.li (.lst (Ye.map V.int))) x=some o:=fun x o hx h=>by rw[ah hx];exact h
 refine⟨kp _ _ (bO c.ob c.hli (by intro z;cases z)) c.ob,?_,c.nd,kp _ _ n3 c.hkn,c.BD,fun i b p e1 e2=>kp _ _ (SV b (mem_of_getElem? e1)).2.2.2 (c.hks i b p e1 e2),kp _ _ (nd c.yo) c.yo,kp _ _ n5 c.xX,kp _ _ n6 c.hla,kp _ _ (nd c.hsh) c.hsh,kp _ _ (nd c.hlo) c.hlo,kp _ _ (nd c.hke) c.hke,ar,c.rw,c.n1,c.n2,c.s1,c.l1,fun i j v e=>?_,c.z,h⟩
 ·obtain⟨o,h⟩:=c.dx
  exact⟨o,kp _ _ d8 h⟩
 ·obtain⟨t,i',j',p,q,h1,h2,h3,h4,h5⟩:=c.k1 i j v e
  exact⟨t,i',j',p,q,h1,h2,h3,kp _ _ (nt h4) h4,h5⟩
theorem iI.inj {C:Addr}{H:Hp}{a:Addr}{A:Ad}{ex:List (Str×V)}{n:Nat}{kn:List RP}{ln:List Int}{B:Nat}{nu sh lo ke:List (List Key×V)}(c:iI C H a A ex n kn ln B nu sh lo ke){i j:Nat}{p q:RP}(hi:kn[i]?=some p)(hj:kn[j]?=some q):((i:Int)=j↔p=q):=by
 constructor
 ·intro e
  have:i=j:=by omega
  subst this
  rw[hi]at hj
  exact Option.some.inj hj
 ·rintro rfl
  have h1:=c.n1 i p hi
  rw[c.n1 j p hj]at h1
  injection h1 with h1
  injection h1 with h1
  exact h1.symm
theorem iI.xt {n:Nat}:∀(f:Nat){p q:RP},Iv n p.1 p.2->Iv n q.1 q.2->Iv n (cF f p q).1.1 (cF f p q).1.2/\Iv n (cF f p q).2.1 (cF f p q).2.2
 |0,p,q,h1,h2=>⟨h1,h2⟩
 |f+1,p,q,h1,h2=>by
  cases hl:(kZ p q).getLast? with
  |none=>rw[m8 _ hl];exact⟨h1,h2⟩
  |some k=>
   rw[m7 f hl]
   obtain⟨j,rfl,hj,_⟩:=nS h1 h2 (mem_of_getLast? hl)
   rw[show((j:Int)+1-1).toNat=j by omega]
   exact iI.xt f (dS h1 hj) (dU h2 hj)
theorem wF{α:Type}{l:List α}{x:α}(h:l.getLast?=some x):ju l (-1)=some x:=by
 obtain⟨ys,rfl⟩:=List.getLast?_eq_some_iff.mp h
 unfold L2.ju L2.rq
 rw[if_neg (by decide),length_append,length_singleton,if_pos (by omega)]
 simp
 rw[show(-1+((ys.length:Int)+1)).toNat=ys.length by omega]
 simp
theorem EE{α:Type}{l:List α}{x:α}(h:l.getLast?=some x):l[l.length-1]?=some x:=by
 obtain⟨ys,rfl⟩:=List.getLast?_eq_some_iff.mp h
 simp
theorem cM.last {kn:List RP}{ls:List Nat}{R:List RP}(h:cM kn ls R)(hp:0<R.length):∃m r,ls.getLast?=some m/\R.getLast?=some r/\kn[m]?=some r:=by
 have e:R[R.length-1]?=some (R[R.length-1]'(by omega)):=getElem?_eq_getElem (by omega)
 obtain⟨m,h1,h2⟩:=h.at e
 refine⟨m,_,?_,?_,h2⟩
 ·rw[List.getLast?_eq_getElem?,h.len];exact h1
 ·rw[List.getLast?_eq_getElem?];exact e
theorem S3(ls:List Nat)(m:Nat):(nI (ls++[m])).map V.int=(nI ls).map V.int++[V.int m]:=by unfold nI;simp
theorem uw{ls:List Nat}{i m:Nat}(h:ls[i]?=some m):((nI ls).map V.int)[i]?=some (V.int m):=by unfold nI;rw[getElem?_map,getElem?_map,h];rfl
theorem JL(ls:List Nat)(i m:Nat):((nI ls).map V.int).set i (V.int m)=(nI (ls.set i m)).map V.int:=by unfold nI;rw[map_set,map_set]
theorem EF(ls:List Nat):((nI ls).map V.int).dropLast=(nI ls.dropLast).map V.int:=by unfold nI;rw[map_dropLast,map_dropLast]
theorem wg{ls:List Nat}{m:Nat}(h:ls.getLast?=some m):((nI ls).map V.int).getLast?=some (V.int m):=by unfold nI;rw[List.getLast?_map,List.getLast?_map,h];rfl
theorem JM{R:List RP}{t:Nat}{r c:RP}(h:R[t]?=some r):vE (R.take (t+1)).reverse c=if(cF 50 r c).1=r then c::(R.take (t+1)).reverse else(cF 50 r c).2::vE (R.take t).reverse (cF 50 r c).1:=by
 have e:R.take (t+1)=R.take t++[r]:=by rw[take_succ,h];rfl
 rw[e,reverse_append]
 rfl
theorem iI.Po {C:Addr}{H:Hp}{a:Addr}{A:Ad}{ex:List (Str×V)}{n:Nat}{kn:List RP}{ln:List Int}{B:Nat}{nu sh lo ke:List (List Key×V)}(c:iI C H a A ex n kn ln B nu sh lo ke)(XH:List (Str×V)):
  iI C (upd H a (.ins C A.dx (vC A++XH))) a A XH n kn ln B nu sh lo ke:=by
 have nl:∀{x:Addr}{xs:List V},H x=some (.lst xs)->x≠a:=fun h1=>bO h1 c.ob (by intro z;cases z)
 have nd:∀{x:Addr}{xs:List (List Key×V)},H x=some (.dT xs)->x≠a:=fun h1=>bO h1 c.ob (by intro z;cases z)
 have nt:∀{x:Addr}{xs:List V},H x=some (.tup xs)->x≠a:=fun h1=>bO h1 c.ob (by intro z;cases z)
 obtain⟨_,_,_,⟨d1,d2,d3,d4,d5,d6,d7,d8,d9⟩,_⟩:=c.SS
 have kp:∀x o,x≠a->H x=some o->(upd H a (.ins C A.dx (vC A++XH))) x=some o:=fun x o hx h=>by rw[ah hx];exact h
 refine⟨ar,?_,c.nd,kp _ _ (nl c.hkn) c.hkn,c.BD,fun i b p e1 e2=>kp _ _ (nl (c.hks i b p e1 e2)) (c.hks i b p e1 e2),kp _ _ (nd c.yo) c.yo,kp _ _ (nl c.xX) c.xX,kp _ _ (nl c.hla) c.hla,kp _ _ (nd c.hsh) c.hsh,kp _ _ (nd c.hlo) c.hlo,kp _ _ (nd c.hke) c.hke,kp _ _ (nl c.hli) c.hli,c.rw,c.n1,c.n2,c.s1,c.l1,fun i j v e=>?_,c.z,c.li⟩
 ·obtain⟨o,h⟩:=c.dx
  exact⟨o,kp _ _ (Ne.symm d9) h⟩
 ·obtain⟨t,i',j',p,q,h1,h2,h3,h4,h5⟩:=c.k1 i j v e
  exact⟨t,i',j',p,q,h1,h2,h3,kp _ _ (nt h4) h4,h5⟩
theorem jA{H:Hp}{a C dx:Addr}{fs:List (Str×V)}(hob:H a=some (.ins C dx fs)){l:Addr}(hl:H l=none)(o:HO)(f:Str):
  l≠a/\(upd H l o) a=some (.ins C dx fs)/\(upd (upd H l o) a (.ins C dx (km f (.ref l) fs))) a=some (.ins C dx (km f (.ref l) fs))/\(upd (upd H l o) a (.ins C dx (km f (.ref l) fs))) l=some o/\(∀x u,x≠a->H x=some u->(upd (upd H l o) a (.ins C dx (km f (.ref l) fs))) x=some u)/\∀x,(upd (upd H l o) a (.ins C dx (km f (.ref l) fs))) x=none->H x=none:=by
 have hla:l≠a:=fun z=>by rw[z,hob]at hl;cases hl
 refine⟨hla,by rw[ah (Ne.symm hla)];exact hob,ar,by rw[ah hla];exact ar,fun x u hx h=>?_,fun x hx=>?_⟩
 ·rw[ah hx,ah (fun z=>by rw[z,hl]at h;cases h)]
  exact h
 ·by_cases z:x=a
  ·rw[z,ar]at hx;cases hx
  ·rw[ah z]at hx
   by_cases z2:x=l
   ·rw[z2];exact hl
   ·rw[ah z2]at hx;exact hx
def dW(n:Nat):RP:=((upTo n).reverse,(upTo n).reverse)
def dB(n:Nat)(R:List RP):Nat:=(R.takeWhile fun r=>decide (r=dW n)).length
def vc(n:Nat)(R:List RP):D:=.tup [.int (dB n R),.lst ((R.drop (dB n R)).map fun p=>D.lst (aA p.1))]
theorem BH{n:Nat}{R:List RP}{i:Nat}(h:∀j<i,R[j]?=some (dW n))(hs:R[i]?≠some (dW n)):dB n R=i:=by
 induction R generalizing i with
 |nil=>
  cases i with
  |zero=>rfl
  |succ i=>have:=h 0 (by omega);simp at this
 |cons r R ih=>
  unfold dB
  cases i with
  |zero=>
   have hr:¬r=dW n:=fun e=>hs (by rw[e];rfl)
   rw[List.takeWhile_cons_of_neg (by simp[hr])]
   rfl
  |succ i=>
   have hr:r=dW n:=by have:=h 0 (by omega);simpa using this
   rw[List.takeWhile_cons_of_pos (by simp[hr]),length_cons]
   have:=ih (i:=i) (fun j hj=>by have:=h (j+1) (by omega);simpa using this) (by simpa using hs)
   unfold dB at this
   rw[this]
theorem JN(n:Nat)(R:List RP)(p:RP):(eO n R p).length<=R.length+1:=by
 unfold eO
 split
 ·rw[List.length_dropLast,we];omega
 ·rw[we];omega
def tH(r:List Int):List Int:=(upTo r.length).map fun v=>((r.idxOf v:Nat):Int)
theorem hU{n:Nat}{r:List Int}(h:aP n r):Iv n r (tH r):=by
 obtain⟨s,iv⟩:=SM h
 have e:tH r=s:=by
  refine aT (by unfold tH;rw[length_map,ai,iv.lr,iv.ls]) fun j hj=>?_
  have Dh:j<n:=by unfold tH at hj;rwa [length_map,ai,iv.lr]at hj
  have hg:(tH r)[j]?=some ((r.idxOf (j:Int):Nat):Int):=by
   unfold tH
   rw[getElem?_map,pJ _ j (by rw[iv.lr];exact Dh)]
   rfl
  rw[<-(iv.idx Dh).2]
  unfold aa
  rw[hg]
  rfl
 rw[e]
 exact iv
def fY(n:Nat)(rs:List (List Int)):List RP:=rs.foldl (fun R r=>eO n R (r,tH r)) []
theorem GK{n:Nat}{rs:List (List Int)}{i:Nat}{r:List Int}(h:rs[i]?=some r):fY n (rs.take (i+1))=eO n (fY n (rs.take i)) (r,tH r):=by
 unfold fY
 rw[take_succ,h,foldl_append]
 rfl
theorem sy(n:Nat):∀(rs:List (List Int))(R:List RP),(rs.foldl (fun R r=>eO n R (r,tH r)) R).length<=R.length+rs.length
 |[],R=>Nat.le_refl _
 |r::rs,R=>by
  have h:=sy n rs (eO n R (r,tH r))
  have h2:=JN n R (r,tH r)
  rw[foldl_cons,length_cons]
  omega
def Pp(n:Nat)(p y:RP):Prop:=∀i j,i<j->j<n->aa y.2 j<aa y.2 i->aa p.1 i<aa p.1 j
def Pq(n:Nat)(w q x:RP):Prop:=∀t,t<n->aa w.2 t=aa x.2 (aa q.2 t).toNat
structure vG(n:Nat)(p0 q0 p q y:RP):Prop where
 iy:Iv n y.1 y.2
 pp:Pq n p p0 y
 pq:Pq n q0 y q
 ap:Pp n p0 y
 aq:Pp n y q
 pl:∀t,t<n->aa p.1 t=aa p0.1 (aa y.1 t).toNat
def sw(a t:Nat):Nat:=if t=a then a+1 else if t=a+1 then a else t
theorem xu{a t n:Nat}(ha:a+1<n)(ht:t<n):sw a t<n:=by
 unfold sw
 repeat' split
 all_goals omega
theorem JO(a:Nat){x:Int}(h:0<=x):sw a (sg a x).toNat=x.toNat:=by
 unfold sg sw
 repeat' split
 all_goals omega
theorem cX{l:List Int}{a:Nat}(h:a+1<l.length)(t:Nat):aa (dA l a) t=aa l (sw a t):=by
 rw[g9 _ _ h]
 unfold sw
 repeat' split
 all_goals rfl
theorem vG.start {n:Nat}{p q:RP}(ip:Iv n p.1 p.2)(hi:Iv n (upTo n) (upTo n)):vG n p q p q (upTo n,upTo n):=by
 have c:∀t,t<n->(aa (upTo n) t).toNat=t:=fun t ht=>by rw[ao ht];exact toNat_natCast t
 refine⟨hi,fun t ht=>?_,fun t ht=>?_,fun i j hij hj h=>?_,fun i j hij hj h=>?_,fun t ht=>?_⟩
 ·obtain⟨h1,h2,_⟩:=ip.sr t ht
  show _=aa (upTo n) (aa p.2 t).toNat
  rw[ao (by omega)]
  omega
 ·show _=aa q.2 (aa (upTo n) t).toNat
  rw[c t ht]
 ·dsimp only at h
  rw[ao hj,ao (by omega)]at h
  omega
 ·dsimp only
  rw[ao hj,ao (by omega)]
  omega
 ·show _=aa p.1 (aa (upTo n) t).toNat
  rw[c t ht]
theorem vG.step {n:Nat}{p0 q0 p q y:RP}(o:vG n p0 q0 p q y)(Ay:Iv n p0.1 p0.2)(ip:Iv n p.1 p.2)(iq:Iv n q.1 q.2){j:Nat}(hj:j+1<n)(hup:aa p.1 j<aa p.1 (j+1))(hdn:aa q.2 (j+1)<aa q.2 j):vG n p0 q0 (o4 p j) (rm q j) (o4 y j):=by
 have iy:=o.iy
 refine⟨dS iy hj,fun t ht=>?_,fun t ht=>?_,fun i i' Ur wM h=>?_,fun i i' Ur wM h=>?_,fun t ht=>?_⟩
 ·obtain⟨h1,h2,_⟩:=Ay.sr t ht
  show aa (nR p.2 j) t=aa (nR y.2 j) (aa p0.2 t).toNat
  rw[aU (by rw[ip.ls];exact ht),aU (by rw[iy.ls];omega),o.pp t ht]
 ·obtain⟨h1,h2,_⟩:=iy.sr t ht
  show aa q0.2 t=aa (dA q.2 j) (aa (nR y.2 j) t).toNat
  rw[aU (by rw[iy.ls];exact ht),cX (by rw[iq.ls];exact hj),JO j h1,o.pq t ht]
 ·have h':aa (nR y.2 j) i'<aa (nR y.2 j) i:=h
  rw[aU (by rw[iy.ls];exact wM),aU (by rw[iy.ls];omega)]at h'
  by_cases hb:aa y.2 i'<aa y.2 i
  ·exact o.ap i i' Ur wM hb
  ·obtain⟨a1,a2,a3⟩:=iy.sr i (by omega)
   obtain⟨b1,b2,b3⟩:=iy.sr i' wM
   have hne:aa y.2 i≠aa y.2 i':=fun e=>by
    have:=iy.Hw (v:=i) (w:=i') (by omega) wM e
    omega
   have hab:aa y.2 i=j/\aa y.2 i'=j+1:=by
    unfold sg at h'
    repeat' split at h'
    all_goals omega
   have e1:=o.pl j (by omega)
   have e2:=o.pl (j+1) hj
   rw[hab.1,toNat_natCast]at a3
   rw[hab.2,show((j:Int)+1).toNat=j+1 by omega]at b3
   rw[a3,toNat_natCast]at e1
   rw[b3,toNat_natCast]at e2
   omega
 ·have h':aa (dA q.2 j) i'<aa (dA q.2 j) i:=h
  show aa (dA y.1 j) i<aa (dA y.1 j) i'
  rw[cX (by rw[iq.ls];exact hj),cX (by rw[iq.ls];exact hj)]at h'
  rw[cX (by rw[iy.lr];exact hj),cX (by rw[iy.lr];exact hj)]
  by_cases hc:i=j/\i'=j+1
  ·obtain⟨rfl,rfl⟩:=hc
   unfold sw at h'
   rw[if_pos rfl,if_neg (by omega),if_pos rfl]at h'
   omega
  ·refine o.aq (sw j i) (sw j i') ?_ (xu hj wM) h'
   unfold sw
   repeat' split
   all_goals omega
 ·obtain⟨h1,h2,_⟩:=iy.rs (sw j t) (xu hj ht)
  show aa (dA p.1 j) t=aa p0.1 (aa (dA y.1 j) t).toNat
  rw[cX (by rw[ip.lr];exact hj),cX (by rw[iy.lr];exact hj),o.pl _ (xu hj ht)]
theorem EG{n:Nat}{p0 q0:RP}(Ay:Iv n p0.1 p0.2):∀(f:Nat)(p q y:RP),Iv n p.1 p.2->Iv n q.1 q.2->vG n p0 q0 p q y->∃y',vG n p0 q0 (cF f p q).1 (cF f p q).2 y'
 |0,p,q,y,_,_,o=>⟨y,o⟩
 |f+1,p,q,y,ip,iq,o=>by
  cases h:(kZ p q).getLast? with
  |none=>rw[m8 _ h];exact⟨y,o⟩
  |some k=>
   obtain⟨j,rfl,hj,h1,h2⟩:=nS ip iq (mem_of_getLast? h)
   rw[m7 f h,show((j:Int)+1-1).toNat=j by omega]
   exact EG Ay f _ _ _ (dS ip hj) (dU iq hj) (o.step Ay ip iq hj h1 h2)
theorem wj{n:Nat}(hn:n<=7):∀(f:Nat)(p q:RP),Iv n p.1 p.2->Iv n q.1 q.2->49<f+gm p.1->kZ (cF f p q).1 (cF f p q).2=[]
 |0,p,q,ip,iq,h=>by have:=uv hn ip;omega
 |f+1,p,q,ip,iq,h=>by
  cases hk:(kZ p q).getLast? with
  |none=>
   rw[m8 _ hk]
   exact List.getLast?_eq_none_iff.mp hk
  |some k=>
   obtain⟨j,rfl,hj,h1,h2⟩:=nS ip iq (mem_of_getLast? hk)
   rw[m7 f hk,show((j:Int)+1-1).toNat=j by omega]
   have:=JK ip hj h1
   exact wj hn f _ _ (dS ip hj) (dU iq hj) (by omega)
theorem Pq.calm {n:Nat}{w q x:RP}(hp:Pq n w q x)(iq:Iv n q.1 q.2)(ix:Iv n x.1 x.2)(ad:Pp n q x){i j:Nat}(hij:i<=j)(hj:j<n)(h:aa w.2 i<=aa w.2 j):aa q.2 i<=aa q.2 j:=by
 refine byContradiction fun hc=>?_
 obtain⟨a1,a2,a3⟩:=iq.sr i (by omega)
 obtain⟨b1,b2,b3⟩:=iq.sr j hj
 rw[hp i (by omega),hp j hj]at h
 have hne:(aa q.2 j).toNat<(aa q.2 i).toNat:=by omega
 have hx:aa x.2 (aa q.2 i).toNat≠aa x.2 (aa q.2 j).toNat:=fun e=>by
  have:=ix.Hw (v:=(aa q.2 i).toNat) (w:=(aa q.2 j).toNat) (by omega) (by omega) e
  omega
 have:=ad (aa q.2 j).toNat (aa q.2 i).toNat hne (by omega) (by omega)
 rw[a3,b3]at this
 omega
theorem cO{p q:RP}{n:Nat}(ip:Iv n p.1 p.2)(iq:Iv n q.1 q.2):kZ p q=[]↔∀j,j+1<n->aa q.2 (j+1)<aa q.2 j->aa p.1 (j+1)<aa p.1 j:=by
 constructor
 ·intro h j hj hd
  refine byContradiction fun hc=>?_
  have hm:((j:Int)+1)∈kZ p q:=by
   unfold kZ
   rw[mem_filter]
   refine⟨lK.mpr ⟨j,rfl,by rw[iq.ls];exact hj,hd⟩,?_⟩
   have:((j:Int)+1)∉se p.1:=fun z=>by
    obtain⟨a,e,_,h2⟩:=lK.mp z
    have:a=j:=by omega
    subst this
    exact hc h2
   rw[decide_eq_false this]
   rfl
  rw[h]at hm
  cases hm
 ·intro h
  cases e:kZ p q with
  |nil=>rfl
  |cons k t=>
   obtain⟨j,_,hj,h1,h2⟩:=nS ip iq (k:=k) (by rw[e];exact mem_cons_self)
   have:=h j hj h2
   omega
theorem switch(f:Nat->Bool):∀(d u:Nat),f u=false->f (u+d)=true->∃i,u<=i/\i<u+d/\f i=false/\f (i+1)=true
 |0,u,h1,h2=>by rw[Nat.add_zero,h1]at h2;cases h2
 |d+1,u,h1,h2=>by
  cases h:f (u+d)with
  |true=>
   obtain⟨i,a,b,c,e⟩:=switch f d u h1 h
   exact⟨i,a,by omega,c,e⟩
  |false=>exact⟨u+d,by omega,by omega,h,h2⟩
theorem S4{n:Nat}{r q x s' w y w2 s:RP}(ir:Iv n r.1 r.2)(iq:Iv n q.1 q.2)(ix:Iv n x.1 x.2)(is':Iv n s'.1 s'.2)(iw:Iv n w.1 w.2)(iy:Iv n y.1 y.2)(Na:Iv n w2.1 w2.2)
  (hrq:kZ r q=[])(hws:kZ w s'=[])(hw:Pq n w q x)(aqx:Pp n q x)(axs:Pp n x s')(Pr:Pq n w y w2)(ayw:Pp n y w2)(ary:Pp n r y):kZ w2 s'=[]:=by
 refine(cO Na is').mpr fun j hj hd=>byContradiction fun hc=>?_
 have hstop:=(cO iw is').mp hws j hj hd
 obtain⟨v0,v1,v2⟩:=iw.rs j (by omega)
 obtain⟨u0,u1,u2⟩:=iw.rs (j+1) hj
 generalize hv:(aa w.1 j).toNat=v at*
 generalize hu:(aa w.1 (j+1)).toNat=u at*
 have huv:u<v:=by omega
 have hy:aa y.2 v<aa y.2 u:=by
  refine byContradiction fun hz=>?_
  obtain⟨a1,a2,a3⟩:=iy.sr u (by omega)
  obtain⟨b1,b2,b3⟩:=iy.sr v (by omega)
  have e1:=Pr u (by omega)
  have e2:=Pr v (by omega)
  rw[u2]at e1
  rw[v2]at e2
  obtain⟨c1,c2,c3⟩:=Na.sr (aa y.2 u).toNat (by omega)
  obtain⟨d1,d2,d3⟩:=Na.sr (aa y.2 v).toNat (by omega)
  rw[<-e1,show(((j+1:Nat):Int)).toNat=j+1 by omega]at c3
  rw[<-e2,toNat_natCast]at d3
  have hne:aa y.2 u≠aa y.2 v:=fun e=>by
   have:=iy.Hw (v:=u) (w:=v) (by omega) (by omega) e
   omega
  omega
 have hq:aa q.2 v<aa q.2 u:=by
  refine byContradiction fun hz=>?_
  obtain⟨a1,a2,a3⟩:=iq.sr u (by omega)
  obtain⟨b1,b2,b3⟩:=iq.sr v (by omega)
  have e1:=hw u (by omega)
  have e2:=hw v (by omega)
  rw[u2]at e1
  rw[v2]at e2
  have:=axs j (j+1) (by omega) hj hd
  obtain⟨c1,c2,c3⟩:=ix.sr (aa q.2 u).toNat (by omega)
  obtain⟨d1,d2,d3⟩:=ix.sr (aa q.2 v).toNat (by omega)
  rw[<-e1,show(((j+1:Nat):Int)).toNat=j+1 by omega]at c3
  rw[<-e2,toNat_natCast]at d3
  have hne:aa q.2 u≠aa q.2 v:=fun e=>by
   have:=iq.Hw (v:=u) (w:=v) (by omega) (by omega) e
   omega
  omega
 obtain⟨i,i1,i2,i3,i4⟩:=switch (fun t=>decide (aa w.2 t<=j)) (v-u) u (by rw[decide_eq_false];omega) (by rw[show u+(v-u)=v by omega,decide_eq_true];omega)
 have i3':=of_decide_eq_false i3
 have i4':=of_decide_eq_true i4
 have y1:=Pr.calm iy Na ayw (i:=u) (j:=i) i1 (by omega) (by omega)
 have y2:=Pr.calm iy Na ayw (i:=i+1) (j:=v) (by omega) (by omega) (by omega)
 have q1:=hw.calm iq ix aqx (i:=u) (j:=i) i1 (by omega) (by omega)
 have q2:=hw.calm iq ix aqx (i:=i+1) (j:=v) (by omega) (by omega) (by omega)
 have hr:=(cO ir iq).mp hrq i (by omega) (by omega)
 have:=ary i (i+1) (by omega) (by omega) (by omega)
 omega
def ve:List RP->Prop
 |q::p::ps=>kZ p q=[]/\ve (p::ps)
 |_=>True
def aX(n:Nat)(R:List RP):Prop:=∀x∈R,Iv n x.1 x.2
theorem ve.tail {q:RP}{R:List RP}(h:ve (q::R)):ve R:=by
 cases R with
 |nil=>trivial
 |cons p ps=>exact h.2
structure S5(n:Nat)(p c p' c':RP):Prop where
 ip:Iv n p'.1 p'.2
 ic:Iv n c'.1 c'.2
 fr:kZ p' c'=[]
 ex:∃y,vG n p c p' c' y
theorem gq{n:Nat}(hn:n<=7){p c:RP}(ip:Iv n p.1 p.2)(ic:Iv n c.1 c.2)(hi:Iv n (upTo n) (upTo n)):S5 n p c (cF 50 p c).1 (cF 50 p c).2:=
 ⟨(iI.xt 50 ip ic).1,(iI.xt 50 ip ic).2,wj hn 50 p c ip ic (by omega),EG ip 50 p c _ ip ic (vG.start ip hi)⟩
theorem S5.none {n:Nat}{p c p' c':RP}(s:S5 n p c p' c')(ic:Iv n c.1 c.2)(ip:Iv n p.1 p.2)(e:p'=p):c'=c:=by
 obtain⟨y,o⟩:=s.ex
 subst e
 have hy:∀t,t<n->aa y.2 t=t:=fun t ht=>by
  have h1:=ip.rs t ht
  have:=o.pp (aa p'.1 t).toNat (by omega)
  rw[h1.2.2,toNat_natCast]at this
  exact this.symm
 refine jS (n:=n) s.ic ic ?_
 refine Iv.uniq (n:=n) (s:=c.2) ?_ ic
 have:c'.2=c.2:=aT (by rw[s.ic.ls,ic.ls]) fun t ht=>by
  rw[s.ic.ls]at ht
  rw[o.pq t ht,hy t ht,toNat_natCast]
 rw[<-this]
 exact s.ic
theorem JP{n:Nat}(hn:n<=7)(hi:Iv n (upTo n) (upTo n)):∀(ps:List RP)(p c:RP),aX n (p::ps)->Iv n c.1 c.2->ve (p::ps)->ve ((cF 50 p c).2::vE ps (cF 50 p c).1)
 |[],p,c,hI,ic,_=>by
  have s:=gq hn (hI p (by simp)) ic hi
  exact⟨s.fr,trivial⟩
 |r::ps,p,c,hI,ic,hL=>by
  have ip:=hI p (by simp)
  have ir:=hI r (by simp)
  have s:=gq hn ip ic hi
  have s2:=gq hn ir s.ip hi
  unfold vE
  by_cases e:(cF 50 r (cF 50 p c).1).1=r
  ·rw[if_pos e]
   have e2:=s2.none s.ip ir e
   have f2:=s2.fr
   rw[e,e2]at f2
   exact⟨s.fr,f2,hL.2⟩
  ·rw[if_neg e]
   refine⟨?_,JP hn hi ps r _ (fun x hx=>hI x (mem_cons_of_mem _ hx)) s.ip hL.2⟩
   obtain⟨x,o⟩:=s.ex
   obtain⟨y,o2⟩:=s2.ex
   exact S4 (s:=c) ir ip o.iy s.ic s.ip o2.iy s2.ic hL.1 s.fr o.pp o.ap o.aq o2.pq o2.aq o2.ap
theorem S6{n:Nat}(hn:n<=7)(hi:Iv n (upTo n) (upTo n)){R:List RP}{c:RP}(hI:aX n R)(ic:Iv n c.1 c.2)(hL:ve R.reverse):ve (vE R.reverse c):=by
 cases h:R.reverse with
 |nil=>exact trivial
 |cons p ps=>
  rw[h]at hL
  have Lu:aX n (p::ps):=fun x hx=>hI x (by rw[<-mem_reverse,h];exact hx)
  have s:=gq hn (Lu p (by simp)) ic hi
  unfold vE
  by_cases e:(cF 50 p c).1=p
  ·rw[if_pos e]
   have e2:=s.none ic (Lu p (by simp)) e
   have f:=s.fr
   rw[e,e2]at f
   exact⟨f,hL⟩
  ·rw[if_neg e]
   exact JP hn hi ps p c Lu ic hL
def Lv(n:Nat)(p:RP):Prop:=∃a,a+1<n/\aa p.2 (a+1)<aa p.2 a
theorem wk{n:Nat}{p:RP}(ip:Iv n p.1 p.2)(hi:Iv n (upTo n) (upTo n))(h:¬Lv n p):p=(upTo n,upTo n):=
 jS (n:=n) ip hi (zL ip fun a ha hd=>h ⟨a,ha,hd⟩)
theorem JQ{n:Nat}{p:RP}(h:Lv n p):p≠(upTo n,upTo n):=fun e=>by
 obtain⟨a,ha,hd⟩:=h
 rw[e]at hd
 dsimp only at hd
 rw[ao ha,ao (by omega)]at hd
 omega
theorem Pq.nst {n:Nat}{w q x:RP}(hp:Pq n w q x)(iq:Iv n q.1 q.2)(ix:Iv n x.1 x.2)(ad:Pp n q x){a:Nat}(ha:a+1<n)(h:aa q.2 (a+1)<aa q.2 a):aa w.2 (a+1)<aa w.2 a:=by
 refine byContradiction fun hc=>?_
 have:=hp.calm iq ix ad (i:=a) (j:=a+1) (by omega) ha (by omega)
 omega
theorem JR{n:Nat}(hn:n<=7)(hi:Iv n (upTo n) (upTo n)):∀(ps:List RP)(p c:RP),aX n (p::ps)->Iv n c.1 c.2->ve (p::ps)->(∀x∈p::ps,Lv n x)->∀x∈vE ps (cF 50 p c).1,Lv n x
 |[],p,c,hI,ic,_,hN,x,hx=>by
  have s:=gq hn (hI p (by simp)) ic hi
  obtain⟨y,o⟩:=s.ex
  obtain⟨a,ha,hd⟩:=hN p (by simp)
  rw[mem_singleton.mp hx]
  exact⟨a,ha,o.pp.nst (hI p (by simp)) o.iy o.ap ha hd⟩
 |r::ps,p,c,hI,ic,hL,hN,x,hx=>by
  have ip:=hI p (by simp)
  have ir:=hI r (by simp)
  have s:=gq hn ip ic hi
  have s2:=gq hn ir s.ip hi
  obtain⟨z,o⟩:=s.ex
  obtain⟨y,o2⟩:=s2.ex
  obtain⟨a,ha,hd⟩:=hN p (by simp)
  have LJ:=o.pp.nst ip o.iy o.ap ha hd
  unfold vE at hx
  by_cases e:(cF 50 r (cF 50 p c).1).1=r
  ·rw[if_pos e]at hx
   rcases mem_cons.mp hx with rfl|hx
   ·exact⟨a,ha,LJ⟩
   ·exact hN x (mem_cons_of_mem _ hx)
  ·rw[if_neg e]at hx
   rcases mem_cons.mp hx with rfl|hx
   ·refine byContradiction fun hc=>?_
    have e2:=wk s2.ic hi hc
    have hy:∀t,t<n->aa (cF 50 p c).1.2 t=aa y.2 t:=fun t ht=>by
     have h1:=o2.iy.sr t ht
     have:=o2.pq t ht
     rw[e2]at this
     dsimp only at this
     rw[ao (by omega)]at this
     omega
    rw[hy _ ha,hy _ (by omega)]at LJ
    have h1:=o2.ap a (a+1) (by omega) ha LJ
    have h2:=(cO ir ip).mp hL.1 a ha hd
    omega
   ·exact JR hn hi ps r _ (fun x hx=>hI x (mem_cons_of_mem _ hx)) s.ip hL.2 (fun x hx=>hN x (mem_cons_of_mem _ hx)) x hx
structure qk(n:Nat)(R:List RP):Prop where
 iv:aX n R
 lw:ve R.reverse
 ns:∀x∈R,Lv n x
theorem zN{n:Nat}:∀(R:List RP)(p:RP),(∀x∈R,Iv n x.1 x.2)->Iv n p.1 p.2->∀x∈vE R p,Iv n x.1 x.2
 |[],p,_,hp,x,hx=>by rw[mem_singleton.mp hx];exact hp
 |r::R,p,hR,hp,x,hx=>by
  obtain⟨i1,i2⟩:=iI.xt 50 (hR r (by simp)) hp
  unfold vE at hx
  split at hx
  ·rcases mem_cons.mp hx with rfl|hx
   ·exact hp
   ·exact hR x hx
  ·rcases mem_cons.mp hx with rfl|hx
   ·exact i2
   ·exact zN R _ (fun y hy=>hR y (by simp[hy])) i1 x hx
theorem JS{n:Nat}(hn:n<=7)(hi:Iv n (upTo n) (upTo n)){R:List RP}{c:RP}(h:qk n R)(ic:Iv n c.1 c.2):∃d T,vE R.reverse c=d::T/\∀x∈T,Lv n x:=by
 cases hr:R.reverse with
 |nil=>exact⟨c,[],rfl,fun x hx=>nomatch hx⟩
 |cons p ps=>
  have Lu:aX n (p::ps):=fun x hx=>h.iv x (by rw[<-mem_reverse,hr];exact hx)
  have hN':∀x∈p::ps,Lv n x:=fun x hx=>h.ns x (by rw[<-mem_reverse,hr];exact hx)
  have hL:=h.lw
  rw[hr]at hL
  unfold vE
  by_cases e:(cF 50 p c).1=p
  ·rw[if_pos e]
   exact⟨c,p::ps,rfl,hN'⟩
  ·rw[if_neg e]
   exact⟨_,_,rfl,JR hn hi ps p c Lu ic hL hN'⟩
theorem Dm{n:Nat}(hn:n<=7)(hi:Iv n (upTo n) (upTo n)){R:List RP}{c:RP}(h:qk n R)(ic:Iv n c.1 c.2):qk n (eO n R c):=by
 have Us:=S6 hn hi h.iv ic h.lw
 have Ut:=zN R.reverse c (fun x hx=>h.iv x (by simpa using hx)) ic
 obtain⟨d,T,e,hT⟩:=JS hn hi h ic
 have WA:(sj R c).getLast?=some d:=by unfold sj;rw[e];simp
 have WB:(sj R c).dropLast=T.reverse:=by unfold sj;rw[e];simp
 unfold eO
 rw[WA]
 by_cases hd:some d=some (upTo n,upTo n)
 ·rw[if_pos hd,WB]
  rw[e]at Us Ut
  exact⟨fun x hx=>Ut x (mem_cons_of_mem _ (by simpa using hx)),by rw[reverse_reverse];exact Us.tail,fun x hx=>hT x (by simpa using hx)⟩
 ·rw[if_neg hd]
  unfold sj
  refine⟨fun x hx=>Ut x (by simpa using hx),by rw[reverse_reverse];exact Us,fun x hx=>?_⟩
  rw[mem_reverse,e]at hx
  rcases mem_cons.mp hx with rfl|hx
  ·refine byContradiction fun hc=>hd ?_
   rw[wk (Ut x (by rw[e];exact mem_cons_self)) hi hc]
  ·exact hT x hx
theorem EH{n:Nat}(hn:n<=7)(hi:Iv n (upTo n) (upTo n)):∀(rs:List (List Int))(R:List RP),(∀r∈rs,aP n r)->qk n R->qk n (rs.foldl (fun R r=>eO n R (r,tH r)) R)
 |[],R,_,h=>h
 |r::rs,R,hr,h=>EH hn hi rs _ (fun x hx=>hr x (by simp[hx])) (Dm hn hi h (hU (hr r (by simp))))
theorem ux{n:Nat}{r s:List Int}(h:Iv n r s)(hd:∀j,j+1<n->aa r (j+1)<aa r j):r=(upTo n).reverse:=by
 have up:∀j,j<n->aa r j<=(n:Int)-1-j:=fun j=>by
  induction j with
  |zero=>intro h0;have:=(h.rs 0 h0).2.1;omega
  |succ j ih=>intro hj;have:=ih (by omega);have:=hd j hj;omega
 have dn:∀d j,j+d+1=n->(d:Int)<=aa r j:=fun d=>by
  induction d with
  |zero=>intro j hj;exact(h.rs j (by omega)).1
  |succ d ih=>intro j hj;have:=ih (j+1) (by omega);have:=hd j (by omega);omega
 refine aT (by rw[h.lr,length_reverse,ai]) fun j hj=>?_
 rw[h.lr]at hj
 have h1:=up j hj
 have h2:=dn (n-1-j) j (by omega)
 have h3:aa (upTo n).reverse j=((n-1-j:Nat):Int):=by
  unfold aa
  rw[getElem?_reverse (by rw[ai];exact hj),ai,pJ n _ (by omega)]
  rfl
 omega
theorem Dn{n:Nat}{p:RP}(ip:Iv n p.1 p.2)(hh:Iv n (dW n).1 (dW n).2)(h:kZ p (dW n)=[]):p=dW n:=by
 refine jS (n:=n) ip hh (ux ip fun j hj=>(cO ip hh).mp h j hj ?_)
 have c:∀p,p<n->aa (upTo n).reverse p=((n-1-p:Nat):Int):=fun p hp=>by
  unfold aa
  rw[getElem?_reverse (by rw[ai];exact hp),ai,pJ n _ (by omega)]
  rfl
 show aa (upTo n).reverse (j+1)<aa (upTo n).reverse j
 rw[c _ hj,c _ (by omega)]
 omega
theorem ve.at_:∀{l A B:List RP}{p q:RP},ve l->l=A++q::p::B->kZ p q=[]
 |_,[],B,p,q,h,e=>by rw[e]at h;exact h.1
 |l,a::A,B,p,q,h,e=>by
  rw[e,cons_append]at h
  exact ve.at_ h.tail rfl
theorem qk.nb {n:Nat}{R A B:List RP}{p q:RP}(h:qk n R)(e:R=A++p::q::B):kZ p q=[]:=
 h.lw.at_ (A:=B.reverse) (B:=A.reverse) (by rw[e];simp)
theorem EI{n:Nat}(hh:Iv n (dW n).1 (dW n).2){R:List RP}(h:qk n R):∀(B A:List RP)(p:RP),R=A++p::B->p≠dW n->∀x∈p::B,x≠dW n
 |[],A,p,e,hp,x,hx=>by rw[mem_singleton.mp hx];exact hp
 |q::B,A,p,e,hp,x,hx=>by
  have ip:=h.iv p (by rw[e];simp)
  have hq:q≠dW n:=fun z=>by
   have:=h.nb e
   rw[z]at this
   exact hp (Dn ip hh this)
  rcases mem_cons.mp hx with rfl|hx
  ·exact hp
  ·exact EI hh h B (A++[p]) q (by rw[e];simp) hq x hx
theorem xw{n:Nat}(R:List RP):R=replicate (dB n R) (dW n)++R.drop (dB n R):=by
 unfold dB
 induction R with
 |nil=>rfl
 |cons p R ih=>
  by_cases h:p=dW n
  ·rw[List.takeWhile_cons_of_pos (by simpa using h),length_cons,replicate_succ,List.drop_succ_cons,cons_append,<-ih,h]
  ·rw[List.takeWhile_cons_of_neg (by simpa using h)]
   rfl
theorem BI{n:Nat}(R:List RP):∀p B,R.drop (dB n R)=p::B->p≠dW n:=by
 unfold dB
 induction R with
 |nil=>intro p B h;cases h
 |cons q R ih=>
  intro p B h
  by_cases hq:q=dW n
  ·rw[List.takeWhile_cons_of_pos (by simpa using hq),length_cons,List.drop_succ_cons]at h
   exact ih p B h
  ·rw[List.takeWhile_cons_of_neg (by simpa using hq)]at h
   have:q=p:=(List.cons.inj h).1
   rw[<-this];exact hq
theorem GO{n:Nat}(hh:Iv n (dW n).1 (dW n).2){R:List RP}(h:qk n R):∀x∈R.drop (dB n R),x≠dW n:=fun x hx=>by
 cases e:R.drop (dB n R)with
 |nil=>rw[e]at hx;cases hx
 |cons p B=>
  rw[e]at hx
  exact EI hh h B (replicate (dB n R) (dW n)) p (by rw[<-e];exact xw R) (BI R p B e) x hx
def cmp(o r:List Int):List Int:=r.map fun s=>aa o s.toNat
def yq(o:List Int)(R:List (List Int)):List Int:=R.foldl cmp o
def ki(R:List (List Int)):Nat:=(R.map gm).sum
theorem di{o r:List Int}{t:Nat}(h:t<r.length):aa (cmp o r) t=aa o (aa r t).toNat:=by
 unfold cmp
 have:=cL h
 unfold aa at this⊢
 rw[getElem?_map,this]
 rfl
theorem nT(o:List Int)(a b:List (List Int)):yq o (a++b)=yq (yq o a) b:=foldl_append
theorem sC(a b:List (List Int)):ki (a++b)=ki a+ki b:=by unfold ki;rw[map_append,sum_append]
theorem EJ{n:Nat}{o r q s:List Int}(iq:Iv n q s)(hr:r.length=n):cmp (cmp o r) q=cmp o (cmp r q):=by
 refine aT (by unfold cmp;simp) fun t ht=>?_
 have Ho:t<q.length:=by unfold cmp at ht;simpa using ht
 have h1:=iq.rs t (by rw[<-iq.lr];exact Ho)
 rw[di Ho,di (by rw[hr];omega),di (by unfold cmp;simpa using Ho),di Ho]
theorem vG.prd {n:Nat}{p0 q0 p q y:RP}(o:vG n p0 q0 p q y)(GQ:Iv n q0.1 q0.2)(Ay:Iv n p0.1 p0.2)(ip:Iv n p.1 p.2)(iq:Iv n q.1 q.2):cmp p.1 q.1=cmp p0.1 q0.1:=by
 refine aT (by unfold cmp;simp[iq.lr,GQ.lr]) fun t ht=>?_
 have Ho:t<n:=by unfold cmp at ht;rw[length_map,iq.lr]at ht;exact ht
 rw[di (by rw[iq.lr];exact Ho),di (by rw[GQ.lr];exact Ho)]
 obtain⟨a1,a2,a3⟩:=iq.rs t Ho
 obtain⟨b1,b2,b3⟩:=GQ.rs t Ho
 obtain⟨c1,c2,c3⟩:=o.iy.rs (aa q.1 t).toNat (by omega)
 rw[o.pl _ (by omega)]
 have h1:=o.pq (aa y.1 (aa q.1 t).toNat).toNat (by omega)
 rw[c3,toNat_natCast,a3]at h1
 have:=GQ.Hw (v:=(aa y.1 (aa q.1 t).toNat).toNat) (w:=(aa q0.1 t).toNat) (by omega) (by omega) (by rw[h1,b3])
 rw[this]
theorem zO{n:Nat}{o s:List Int}(h:Iv n o s){a:Nat}(ha:a+1<n):(aa o a<aa o (a+1)->gm (dA o a)=gm o+1)/\(aa o (a+1)<aa o a->gm (dA o a)+1=gm o):=by
 have e:=wb o a [] (by rw[h.lr];exact ha)
 unfold gm
 constructor
 ·intro c
  rw[if_neg (by omega),if_pos c]at e
  omega
 ·intro c
  rw[if_pos c,if_neg (by omega)]at e
  omega
theorem EK{n:Nat}:∀(f:Nat)(p q:RP),Iv n p.1 p.2->Iv n q.1 q.2->gm (cF f p q).1.1+gm (cF f p q).2.1=gm p.1+gm q.1
 |0,p,q,_,_=>rfl
 |f+1,p,q,ip,iq=>by
  cases h:(kZ p q).getLast? with
  |none=>rw[m8 _ h]
  |some k=>
   obtain⟨j,rfl,hj,h1,h2⟩:=nS ip iq (mem_of_getLast? h)
   rw[m7 f h,show((j:Int)+1-1).toNat=j by omega,EK f _ _ (dS ip hj) (dU iq hj)]
   have e1:=(zO ip hj).1 h1
   have e2:=(zO iq.symm hj).2 h2
   have e3:=xq iq
   have e4:=xq (dU iq hj)
   show gm (dA p.1 j)+gm (rm q j).1=_
   have e5:gm (rm q j).2=gm (dA q.2 j):=rfl
   omega
theorem JT{n:Nat}(hn:n<=7)(hi:Iv n (upTo n) (upTo n)){p c:RP}(ip:Iv n p.1 p.2)(ic:Iv n c.1 c.2):cmp (cF 50 p c).1.1 (cF 50 p c).2.1=cmp p.1 c.1:=by
 have s:=gq hn ip ic hi
 obtain⟨y,o⟩:=s.ex
 exact o.prd ic ip s.ip s.ic
def fwd(R:List RP):List (List Int):=(R.reverse).map (·.1)
theorem m9(p:RP)(R:List RP):fwd (p::R)=fwd R++[p.1]:=by unfold fwd;simp
theorem EL{n:Nat}(hn:n<=7)(hi:Iv n (upTo n) (upTo n)):∀(R:List RP)(c:RP),aX n R->Iv n c.1 c.2->(∀o,yq o (fwd (vE R c))=yq o (fwd R++[c.1]))/\ki (fwd (vE R c))=ki (fwd R)+gm c.1
 |[],c,_,_=>⟨fun o=>rfl,by unfold vE ki fwd;simp⟩
 |p::ps,c,hI,ic=>by
  have ip:=hI p (by simp)
  have s:=gq hn ip ic hi
  unfold vE
  by_cases e:(cF 50 p c).1=p
  ·rw[if_pos e]
   exact⟨fun o=>by rw[m9],by rw[m9,sC];simp[ki]⟩
  ·rw[if_neg e]
   obtain⟨h1,h2⟩:=EL hn hi ps (cF 50 p c).1 (fun x hx=>hI x (by simp[hx])) s.ip
   refine⟨fun o=>?_,?_⟩
   ·rw[m9,nT,h1 o,m9,List.append_assoc,nT,nT]
    show cmp (cmp (yq o (fwd ps)) (cF 50 p c).1.1) (cF 50 p c).2.1=cmp (cmp (yq o (fwd ps)) p.1) c.1
    rw[EJ s.ic s.ip.lr,JT hn hi ip ic,<-EJ ic ip.lr]
   ·rw[m9,sC,h2,m9,sC]
    have:=EK 50 p c ip ic
    have e1:∀r:List Int,ki [r]=gm r:=fun r=>by simp[ki]
    rw[e1,e1]
    omega
theorem Nb{n:Nat}(hn:n<=7)(hi:Iv n (upTo n) (upTo n))(c0:gm (upTo n)=0){R:List RP}{c:RP}(hI:aX n R)(ic:Iv n c.1 c.2):(∀o:List Int,o.length=n->yq o ((eO n R c).map (·.1))=yq o (R.map (·.1)++[c.1]))/\ki ((eO n R c).map (·.1))=ki (R.map (·.1))+gm c.1:=by
 have Lu:aX n R.reverse:=fun x hx=>hI x (by simpa using hx)
 obtain⟨h1,h2⟩:=EL hn hi R.reverse c Lu ic
 have ef:fwd (vE R.reverse c)=(sj R c).map (·.1):=rfl
 have er:fwd R.reverse=R.map (·.1):=by unfold fwd;rw[reverse_reverse]
 rw[ef,er]at h2
 unfold eO
 by_cases hd:(sj R c).getLast?=some (upTo n,upTo n)
 ·rw[if_pos hd]
  have hne:sj R c≠[]:=fun z=>by rw[z]at hd;cases hd
  have x8:(sj R c).dropLast++[(upTo n,upTo n)]=sj R c:=by
   have:=List.dropLast_concat_getLast hne
   rw[List.getLast?_eq_some_getLast hne]at hd
   rw[Option.some.inj hd]at this
   exact this
  rw[<-x8,map_append,sC]at h2
  have e1:ki ([((upTo n,upTo n):RP)].map (·.1))=0:=by simp[ki,c0]
  rw[e1]at h2
  refine⟨fun o ho=>?_,h2⟩
  have h3:=h1 o
  rw[ef,er,<-x8,map_append,nT]at h3
  rw[<-h3]
  show _=cmp (yq o ((sj R c).dropLast.map (·.1))) (upTo n)
  have hl:(yq o ((sj R c).dropLast.map (·.1))).length=n:=by
   have Ut:=zN R.reverse c (fun x hx=>hI x (by simpa using hx)) ic
   have ha:∀x∈(sj R c).dropLast,x.1.length=n:=fun x hx=>by
    rw[dropLast_eq_take]at hx
    have:=mem_of_mem_take hx
    unfold sj at this
    exact(Ut x (by simpa using this)).lr
   generalize (sj R c).dropLast=Z at ha
   clear x8 h3 h2 h1
   induction Z generalizing o with
   |nil=>exact ho
   |cons z Z ih=>
    refine ih (cmp o z.1) ?_ fun x hx=>ha x (by simp[hx])
    unfold cmp
    rw[length_map]
    exact ha z (by simp)
  refine aT (by unfold cmp;rw[length_map,hl,ai]) fun t ht=>?_
  rw[hl]at ht
  rw[di (by rw[ai];exact ht),ao ht,toNat_natCast]
 ·rw[if_neg hd]
  exact⟨fun o _=>by have:=h1 o;rw[ef,er]at this;exact this,h2⟩
def tCI(K:PySem.W.Frag)(caps:List Nat)(tl te:TE):TE:=fun σ H Q=>HL K tl σ H fun J H1=>∃(l:Addr)(xs vs:List V),J=QD K l/\ck K H1 l xs/\vs.length=caps.length/\(∀(j i:Nat)(v:V),caps[j]?=some i->vs[j]?=some v->σ[i]?=some (some v))/\
 ∀Dd,H1 Dd=none->∃Pv:Nat->List V->Hp->Prop,Pv 0 [] (upd H1 Dd (.lst []))/\(∀i acc Hx,Pv i acc Hx->ck K Hx l xs/\Hx Dd=some (.lst acc))/\
  (∀i acc Hx x,Pv i acc Hx->xs[i]?=some x->te (some x::vs.map some) Hx fun v H2=>H2 Dd=some (.lst acc)/\acc.length<sizeLine/\Pv (i+1) (acc++[v]) (upd H2 Dd (.lst (acc++[v]))))/\∀acc Hx,Pv xs.length acc Hx->Q (.ref Dd) Hx
section
variable{X:Cx}{pos:Pos}{scope:Scope}{N:List Str}{caps:List Nat}
theorem JU{elt tg iter:Expr}{tl te:TE}(S:jc X scope N 1 caps)(A5:X.calm=true)(hi:PI X tg iter (HL X.K tl))(hg:∀s H fp C pl,PG (ud X scope N s H fp C pl) tg (HG 0))(he:∀s H fp C pl,PE (ud X scope N s H fp C pl) elt te)
  (hs:∀x,foldedSetIterable iter X.env x=pure x:=by intro _;rfl):PE X (.ListComp elt [⟨tg,iter,[],0⟩] scope pos) (tCI X.K caps tl te):=by
 intro pins s σ H Q I h
 rw[eval_ListComp]
 refine wpAny_comprehension_free (use:=none) rfl hs (qI (S.cells I)) S.kind S.names ?_
 refine cj (hi pins s σ H (fun J H1=>∃(l:Addr)(xs vs:List V),J=QD X.K l/\ck X.K H1 l xs/\vs.length=caps.length/\(∀(j i:Nat)(v:V),caps[j]?=some i->vs[j]?=some v->σ[i]?=some (some v))/\
  ∀Dd,H1 Dd=none->∃Pv:Nat->List V->Hp->Prop,Pv 0 [] (upd H1 Dd (.lst []))/\(∀i acc Hx,Pv i acc Hx->ck X.K Hx l xs/\Hx Dd=some (.lst acc))/\
   (∀i acc Hx x,Pv i acc Hx->xs[i]?=some x->te (some x::vs.map some) Hx fun v H2=>H2 Dd=some (.lst acc)/\acc.length<sizeLine/\Pv (i+1) (acc++[v]) (upd H2 Dd (.lst (acc++[v]))))/\∀acc Hx,Pv xs.length acc Hx->Q (.ref Dd) Hx) I ?_) fun v s1 h1=>cj h1 fun itv s2 h2=>?_
 ·exact h
 obtain⟨it,fp,tn,J,H2,rfl,I2,T,Ll,f2,l,xs,vs,rfl,hq,X2,hvs,hinv⟩:=h2
 refine wpAny_newObj_type (wpAny_newFunctionEnv S.cell (by intro y hy;simp at hy) (fun h₁ CU hsb₁=>?_) S.kind)
 dsimp only at CU hsb₁⊢
 have Q8:H2 s2.heap.objs.size=none:=I2.hok.fresh (Nat.le_refl _)
 have I3:Inv X pins σ (upd H2 s2.heap.objs.size (.lst [])) {s2 with heap:=s2.heap.push {cls:=.type "list",dict:=none,data:=.seq ([]:List Value).toArray}}:=
  I2.laid (t':=s2.toks) (fun b u e=>Heap.get?_push_of_some _ e) (Nat.le_refl _) ⟨zero_le _,[],0,.nil,Heap.get?_push_size _ rfl⟩
 generalize VF:({s2 with heap:=s2.heap.push {cls:=.type "list",dict:=none,data:=.seq ([]:List Value).toArray}}:Shared)=s3 at I3
 have Q9:s3.heap=s2.heap.push {cls:=.type "list",dict:=none,data:=.seq ([]:List Value).toArray}:=by rw[<-VF]
 rw[<-Q9]at CU hsb₁⊢
 generalize ZE:s2.heap.objs.size=Dd at*
 have k3:∀b o,s3.heap.get? b=some o->h₁.get? b=some o:=fun b o e=>hsb₁.extBut b o (ne_of_lt (Heap.lt_size e)) (Heap.get?_push_of_some _ e)
 have ID:∀b∈fp,∃o,s2.heap.get? b=some o:=fun b hb=>let⟨o,e,_⟩:=T.obj 0 _ Ll b hb;⟨o,e⟩
 have Ra:∀b∈fp,∃o,s3.heap.get? b=some o:=fun b hb=>let⟨o,e⟩:=ID b hb;⟨o,by rw[Q9];exact Heap.get?_push_of_some _ e⟩
 have ZF:∀b∈fp,b≠Dd:=fun b hb=>let⟨o,e⟩:=ID b hb;by rw[<-ZE];exact ne_of_lt (Heap.lt_size e)
 have f3:∀b∈fp,nA X pins (upd H2 Dd (.lst [])) b:=fun b hb=>⟨by rw[ah (ZF b hb)];exact(f2 b hb).1,(f2 b hb).2⟩
 have I4:=S.start (t':=s2.toks+([]:List (Str×Value)).length) I3 f3 (Nat.le_refl _) CU k3 Ra X2 (fun j i v e1 e2=>hvs j i v e1 e2) _ rfl
 generalize hX:ud X scope N s3 (upd H2 Dd (.lst [])) fp s3.heap.objs.size (X.pn++pins)=X' at I4
 have VG:=hg s3 (upd H2 Dd (.lst [])) fp s3.heap.objs.size (X.pn++pins)
 have VH:=he s3 (upd H2 Dd (.lst [])) fp s3.heap.objs.size (X.pn++pins)
 rw[hX]at VG VH
 have eK:X'.K=X.K:=by rw[<-hX];rfl
 have eP:X'.prog=X.prog:=by rw[<-hX];rfl
 have eW:X'.w=X.w:=by rw[<-hX];rfl
 have eA:X'.A=X.A:=by rw[<-hX];rfl
 have eE:X'.xe=fun _ _=>False:=by rw[<-hX];rfl
 have eC:X'.calm=true:=by rw[<-hX];exact A5
 have eL:X'.env.locals=s3.heap.objs.size:=by rw[<-hX];rfl
 have eS:X'.s₀=s3:=by rw[<-hX];rfl
 have eX:X'.ex=fp:=by rw[<-hX];rfl
 have eF:X'.fs=Cp X.stack:=by rw[<-hX];rfl
 have eN:X'.pn=X.pn++pins:=by rw[<-hX];rfl
 have eH:X'.H₀=upd H2 Dd (.lst []):=by rw[<-hX];rfl
 have eV:X'.env=compEnvC scope (Aq X.env.cells scope.names []) s3.heap.objs.size X.env:=by rw[<-hX];rfl
 have Rb:∀{Hx:Hp},(∀b∈fp,Hx b=none)->∀b∈fp,nA X' [] Hx b:=fun{Hx} hn b hb=>by
  obtain⟨_,c1,c2,c3,c4,c5⟩:=f3 b hb
  have q:=I4.ok.UK b (by rw[eX];exact hb)
  refine⟨hn b hb,q.1,I4.ok.Cw b (by rw[eX];exact hb),.inl (by rw[eX];exact hb),q.2,fun p hp=>?_⟩
  rw[eN,append_nil]at hp
  exact c5 p hp
 obtain⟨Pv,pv0,pvl,pvs,pvd⟩:=hinv Dd Q8
 have loop:∀s4:Shared,Inv X' [] (replicate 1 none++vs.map some) (upd H2 Dd (.lst [])) s4->tn 0 s4.heap->
   codeAny (model X.prog X.w) X.A (.compLoop (.ListComp elt [⟨tg,iter,[],0⟩] scope pos) 0 (.ref it) (.ref Dd) (compEnvC scope (Aq X.env.cells scope.names []) s3.heap.objs.size X.env))
    (compPost (model X.prog X.w) X.A X.xe none (EP X pins σ Q) (.ref Dd) s3.heap.objs.size) s4:=by
  intro s4 J4 IE
  refine uU (fun n s'=>∃(i:Nat)(acc:List V)(Hx:Hp)(t0:Option V),n=xs.length-i/\i<=xs.length/\Inv X' [] (t0::vs.map some) Hx s'/\tn i s'.heap/\(∀b∈fp,Hx b=none)/\Pv i acc Hx) ?_ xs.length
   ⟨0,[],_,none,by simp,zero_le _,J4,IE,fun b hb=>(f3 b hb).1,pv0⟩
  rintro n s5 ⟨i,acc,Hx,t0,rfl,hi5,J5,LQ,Ln,p5⟩
  obtain⟨hq5,VI⟩:=pvl i acc Hx p5
  by_cases hlt:i<xs.length
  ·have hx:xs[i]?=some xs[i]:=getElem?_eq_getElem hlt
   have TI:=T.item X' eP eW eK eC i [] s5 _ Hx (fun _ _=>False) J5 (Rb Ln) LQ ⟨xs,xs[i],hq5,hx⟩
   rw[eA]at TI
   refine cj TI fun r s6 h6=>?_
   obtain⟨u,rfl,h6⟩:=h6
   refine cj h6 fun _ s7 h7=>?_
   obtain⟨x,H7,J7,rx,⟨rfl,hy⟩,Rf,ZJ⟩:=h7
   have exi:=hy xs hq5
   have ZK:=J7.pinned (Rb ZJ) (T.obj _ _ Rf)
   have TG:=VG _ s7 _ H7 x u (fun σ8 H8=>σ8=some x::vs.map some/\H8=H7) ZK rx ⟨rfl,rfl⟩
   rw[eP,eW,eA,eE,eV]at TG
   refine cj TG fun _ s8 h8=>?_
   obtain⟨σ8,H8,J8,rfl,rfl⟩:=h8
   refine cj (wpAny_tests_nil (Q:=fun b s'=>b=true/\s'=s8) ⟨rfl,rfl⟩) fun ok s9 h9=>?_
   obtain⟨rfl,rfl⟩:=h9
   have Ed:∀{σx:St}{Hy:Hp}{sx:Shared},Inv X' ([]++tN fp s7.heap) σx Hy sx->tn (i+1) sx.heap/\∀b∈fp,Hy b=none:=fun{σx Hy sx} Jx=>
    ⟨T.keep _ _ _ Rf fun b hb o e=>(Jx.pin (b,o) (mem_append_right _ (mem_append_right _ (iQ hb e)))).1,fun b hb=>by
     obtain⟨o,e,d⟩:=T.obj _ _ Rf b hb
     exact(Jx.pin (b,o) (mem_append_right _ (mem_append_right _ (iQ hb e)))).2.1⟩
   rw[if_pos rfl]
   have TE:=VH _ s9 _ H8 _ J8 (pvs i acc H8 x p5 exi)
   rw[eP,eW,eA,eE,eV]at TE
   refine cj TE fun y VJ ZL=>?_
   obtain⟨v,A6,ZM,rv,Rg,hlen,p10⟩:=ZL
   have TM:=fy (X:=X') _ VJ _ A6 (.ref Dd) [v] (.ref Dd) [y] (fun _ Uh=>Uh=upd A6 Dd (.lst (acc++[v]))) ZM rfl (.cons rv .nil) ⟨Dd,acc,v,rfl,rfl,Rg,hlen,rfl⟩
   rw[eP,eW,eA,eE]at TM
   refine cj TM fun _ s11 h11=>?_
   obtain⟨v',Uh,VM,_,rfl⟩:=h11
   obtain⟨k1,k2⟩:=Ed VM
   exact⟨xs.length-(i+1),by omega,i+1,acc++[v],_,some x,rfl,hlt,VM.mJ,k1,k2,p10⟩
  ·have e:i=xs.length:=by omega
   subst e
   have TD:=T.done X' eP eW eK eC xs.length [] s5 _ Hx (fun _ _=>False) J5 (Rb Ln) LQ ⟨xs,hq5,Nat.le_refl _⟩
   rw[eA]at TD
   refine cj TD fun r s6 h6=>?_
   obtain⟨rfl,J6⟩:=h6
   obtain⟨m6,Rh,_⟩:=J6.loc
   rw[eL]at Rh
   have ZO:Un (Cp X.stack) fp (upd H2 Dd (.lst [])) Hx s3.heap s6.heap:=by
    have u:=J6.base
    rw[eF,eX,eH,eS]at u
    exact u
   have hxC:Hx s3.heap.objs.size=none:=by have:=J6.free;rw[eL]at this;exact this
   have Ri:qy X.prog X.w Hx s6.heap:=by
    have z:=J6.hok
    rw[eP,eW]at z
    exact z
   have ZP:s6.os=s3.os:=by have:=J6.os;rw[eS]at this;exact this
   have I6:Inv X pins σ Hx s6:=I3.N4 (s':=s6) ZP ZO Ri J6.bare fun b hb=>by
    obtain⟨_,c1,c2,c3,c4,c5⟩:=f3 b hb
    exact⟨c3,c1,c4,c5⟩
   have fC:nA X pins Hx s3.heap.objs.size:=⟨hxC,(I3.CC (Nat.le_refl _) (I3.hok.fresh (Nat.le_refl _))).2⟩
   refine⟨m6,Rh,fun h7 ZQ=>⟨.ref Dd,Hx,yI (fp:=[s3.heap.objs.size]) (t':=s6.toks) I6 (fun b hb=>by
    have z:b=s3.heap.objs.size:=by simpa using hb
    rw[z];exact fC) (fun b u hb e=>(ZQ.2 b (fun z=>hb (by simp[z]))).trans e),rfl,pvd acc Hx p5⟩⟩
 have IE:tn 0 h₁:=T.keep _ _ _ Ll fun b hb o e=>k3 b o (by rw[Q9];exact Heap.get?_push_of_some _ e)
 have eG:({heap:=h₁,gens:=s3.gens,drawn:=s3.drawn,toks:=s2.toks+([]:List (Str×Value)).length,os:=s3.os}:Shared)={heap:=h₁,gens:=s2.gens,drawn:=s2.drawn,toks:=s2.toks+([]:List (Str×Value)).length,os:=s2.os}:=by rw[<-VF]
 rw[eG]at I4
 exact codeAny_compStart_list (loop _ I4 IE) (T.self _ 0 _ _ _ IE (loop _ I4 IE))
end
def kF(env:DE):R Bool:=
 R.ok true
def kG(env:DE):R D:=
 (R.bind (bQ 0 env) fun kh=>R.bind (R.ok (D.int 0)) fun fU=>t9 kh fU)
def EO(env:DE):R Out:=
 (R.bind (R.bind (R.bind (R.bind (R.bind (R.bind (bQ 4 env) fun v6=>R.bind (R.ok (D.int 0)) fun v7=>t9 v6 v7) fun v4=>R.bind (R.bind (R.bind (R.bind (bQ 1 env) t8) fun v9=>R.bind (fO env []) fun v10=>R.bind (R.ne (cy (bN 0) kF kG (jQ 1 v10) v9)) fit) fun v8=>R.of (yM v8)) fun v5=>R.of (jw v4 v5)) fun v2=>R.bind (R.bind (R.bind (bQ 4 env) fun mf=>R.bind (R.ok (D.int 1)) fun mQ=>t9 mf mQ) fun kX=>R.bind (R.ok []) fun lh=>R.ok (kX::lh)) fun v3=>R.ok (v2::v3)) fit) fun ds=>R.ok (D.tup ds)) fun v1=>R.ok (Out.rt v1))
def dN(ds:List D):R D:=match ds with
 |[.int n,d]=>R.ne (R.bind (bc [d]) fun rs=> @ite _ ((1<=n/\n<=7)/\rs.length<=40/\∀r∈rs,aP n.toNat r) (propDecidable _) (R.bind (EO [.val (.int n),.val d,.no,.no,.val (vc n.toNat (fY n.toNat rs))]) aj) .bad)
 |_=>.bad
def JV(env:DE):R Out:=
 (R.bind (R.bind (R.bind (bQ 0 env) fun v2=>R.bind (R.bind (R.bind (R.bind (bQ 0 env) fun v6=>R.bind (R.bind (bQ 1 env) fun v8=>R.bind (R.ok []) fun v9=>R.ok (v8::v9)) fun v7=>R.ok (v6::v7)) dM) fun v4=>R.bind (R.ok []) fun v5=>R.ok (v4::v5)) fun v3=>R.ok (v2::v3)) dN) fun v1=>R.ok (Out.rt v1))
def mj:=mD 2 2 JV
def BJ(env:DE):R Bool:=
 R.ok true
def BK(env:DE):R D:=
 (R.bind (nz 0 env) fun Sh=>R.ok (D.lst Sh))
def BL(env:DE):R Bool:=
 R.ok true
def BN(env:DE):R D:=
 (R.bind (nz 0 env) fun v85=>R.ok (D.lst v85))
def BO(env:DE):R Bool:=
 R.ok true
def xx(env:DE):R D:=
 (R.bind (R.bind (bf 1 env) fun v99=>R.bind (R.ok (D.int 1)) fun Sv=>R.of (gZ v99 Sv)) fun v97=>R.bind (bf 0 env) fun v98=>R.of (gZ v97 v98))
def pN(d:D)(env:DE):R Out:=
 R.bind ((bN 9) d env) fun S7=>
  (R.bind (R.bind (R.bind (nz 8 S7) fun aaE=>R.bind (R.bind (R.bind (bQ 9 S7) fun aaF=>R.bind (R.ok []) fun aaG=>R.ok (aaF::aaG)) dD) fun aaH=>fit (aaE++aaH)) fun aaI=>R.ok (D.lst aaI)) fun aaJ=>R.ok (Out.nx (List.set S7 8 (Sl.val aaJ))))
def Pu(env:DE):R Out:=
 (aS (R.bind (R.bind (R.bind (R.bind (bf 0 env) fun v5=>R.bind (R.bind (R.ok (D.int 0)) fun v7=>R.bind (R.ok []) fun v8=>R.ok (v7::v8)) fun v6=>R.ok (v5::v6)) dg) fun v3=>R.bind (R.bind (R.ok (D.int 10)) fun v9=>R.bind (R.ok (D.int 9)) fun v10=>R.of (Im v9 v10)) fun v4=>R.of (qz v3 v4)) fun v2=>R.ok (Out.nx (List.set env 1 (Sl.val v2)))) fun v1=>
 (aS (R.bind (R.bind (R.bind (bf 1 v1) fun kh=>R.bind (R.bind (R.ok (D.int 1)) fun kX=>R.bind (R.bind (R.ok (D.int 7)) fun mf=>R.bind (R.ok []) fun mQ=>R.ok (mf::mQ)) fun lh=>R.ok (kX::lh)) fun fU=>R.ok (kh::fU)) eZ) fun l9=>R.ok (Out.nx (List.set v1 2 (Sl.val l9)))) fun v11=>
 (aS (R.bind (R.bind (R.bind (bQ 2 v11) fun rf=>R.bind (R.bind (R.bind (R.bind (bQ 0 v11) fun rT=>R.bind (R.bind (bQ 2 v11) fun vB=>R.bind (R.bind (R.ok (D.int 12)) fun zI=>R.bind (R.ok []) fun v30=>R.ok (zI::v30)) fun yk=>R.ok (vB::yk)) fun um=>R.ok (rT::um)) jz) fun q9=>R.bind (R.ok []) fun qJ=>R.ok (q9::qJ)) fun kY=>R.ok (rf::kY)) mj) fun v20=>R.ok (Out.nx (List.set v11 3 (Sl.val v20)))) fun jX=>
 (aS (R.bind (R.bind (R.bind (R.bind (R.bind (bf 3 jX) fun C7=>R.bind (R.bind (bf 2 jX) fun zJ=>R.bind (R.ok []) fun GG=>R.ok (zJ::GG)) fun C6=>R.ok (C7::C6)) cA) iM) fun Bj=>R.ok (!Bj)) fun Bh=>if Bh=true then(R.bind (R.ok (D.bl false)) fun Lr=>R.ok (Out.rt Lr))else(R.ok (Out.nx jX))) fun ym=>
 (aS (R.bind (R.bind (R.bind (bf 2 ym) fun Hu=>R.bind (R.ok (D.int 1)) fun C8=>R.bind (R.of (Cq Hu C8)) iM) fun Si=>if Si=true then(R.bind (R.bind (R.bind (R.bind (bf 1 ym) fun MV=>R.bind (R.bind (R.ok (D.int 7)) fun MU=>R.bind (R.bind (R.ok (D.int 40692)) fun Ls=>R.bind (R.ok []) fun R3=>R.ok (Ls::R3)) fun Ji=>R.ok (MU::Ji)) fun MT=>R.ok (MV::MT)) cR) fun Jj=>R.bind (R.ok (D.int 7)) fun MS=>R.of (qz Jj MS)) fun Ht=>R.bind (R.ok (D.int 3)) fun MY=>R.of (gZ Ht MY))else(R.ok (D.int 0))) fun Pg=>R.ok (Out.nx (List.set ym 4 (Sl.val Pg)))) fun GH=>
 (aS (R.bind (R.bind (R.bind (R.bind (R.bind (R.bind (bQ 3 GH) fun R9=>R.bind (R.ok (D.int 0)) fun Jl=>t9 R9 Jl) fun RY=>R.bind (bf 4 GH) fun RZ=>R.of (jw RY RZ)) fun RX=>R.bind (R.bind (R.bind (R.bind (R.bind (R.bind (bQ 3 GH) fun Sd=>R.bind (R.ok (D.int 1)) fun Sg=>t9 Sd Sg) t8) fun R5=>R.bind (fO GH []) fun R6=>R.bind (R.ne (cy (bN 0) BJ BK (jQ 1 R6) R5)) fit) fun R7=>R.ok (D.lst R7)) fun R8=>R.bind (R.ok []) fun R4=>R.ok (R8::R4)) fun Jk=>R.ok (RX::Jk)) fit) fun ds=>R.ok (D.tup ds)) fun R0=>R.ok (Out.nx (List.set GH 5 (Sl.val R0)))) fun Ph=>
 (aS (R.bind (R.bind (R.bind (R.bind (R.bind (bQ 5 Ph) fun Wm=>R.bind (R.ok (D.int 0)) fun Ws=>t9 Wm Ws) fun Se=>R.bind (R.bind (R.bind (R.bind (R.bind (R.bind (bQ 5 Ph) fun Hv=>R.bind (R.ok (D.int 1)) fun v87=>t9 Hv v87) t8) fun v81=>R.bind (fO Ph []) fun Yb=>R.bind (R.ne (cy (bN 0) BL BN (jQ 1 Yb) v81)) fit) fun Wr=>R.ok (D.lst Wr)) fun Wt=>R.bind (R.ok []) fun Wq=>R.ok (Wt::Wq)) fun Wl=>R.ok (Se::Wl)) fit) fun ds=>R.ok (D.tup ds)) fun Sf=>R.ok (Out.nx (List.set Ph 6 (Sl.val Sf)))) fun MX=>
 (aS (R.bind (R.bind (R.bind (R.bind (R.bind (R.bind (R.bind (bf 2 MX) fun Sy=>R.bind (R.ok []) fun Sq=>R.ok (Sy::Sq)) Mp) fun v93=>R.bind (fO MX [2]) fun v94=>R.bind (R.ne (cy (bN 0) BO xx (jQ 1 v94) v93)) fit) fun v92=>R.ok (D.lst v92)) fun v90=>R.bind (R.ok []) fun v91=>R.ok (v90::v91)) dD) fun v89=>R.ok (Out.nx (List.set MX 7 (Sl.own v89)))) fun Up=>
 (aS (R.bind (R.bind (R.bind (bQ 5 Up) fun Sx=>R.bind (R.ok (D.int 0)) fun Sz=>t9 Sx Sz) fun Su=>R.bind (R.ok (D.int 0)) fun Sw=>R.bind (R.of (Io Su Sw)) iM) fun Ss=>if Ss=true then(R.bind (R.bind (R.bind (bf 7 Up) fun SE=>R.bind (R.ok []) fun SD=>R.ok (SE::SD)) jx) fun SA=>R.ok (Out.nx (List.set Up 7 (Sl.own SA))))else(R.ok (Out.nx Up))) fun Jw=>
 (aS (R.bind (R.bind (R.bind (ownAt 7 Jw) fun SJ=>R.bind (R.bind (R.bind (R.bind (bQ 5 Jw) fun aaK=>R.bind (R.ok (D.int 0)) fun aaL=>t9 aaK aaL) fun aaM=>R.bind (R.ok []) fun aaN=>R.ok (aaM::aaN)) fun aaO=>R.of (Gv aaO)) fun SK=>zB SJ SK) fun SH=>R.ok (D.lst SH)) fun SG=>R.ok (Out.nx (List.set Jw 8 (Sl.val SG)))) fun MZ=>
 (aS (R.bind (R.bind (R.bind (bQ 5 MZ) fun aaP=>R.bind (R.ok (D.int 1)) fun aaQ=>t9 aaP aaQ) t8) fun aaR=>dH pN aaR MZ) fun S8=>
 (aS (R.bind (R.bind (R.bind (R.bind (bQ 2 S8) fun aaS=>R.bind (R.bind (bQ 6 S8) fun aaT=>R.bind (R.ok []) fun aaU=>R.ok (aaT::aaU)) fun aaV=>R.ok (aaS::aaV)) gK) fun aaW=>R.ok (D.lst aaW)) fun aaX=>R.ok (Out.nx (List.set S8 10 (Sl.val aaX)))) fun JW=>
 (aS (R.bind (R.bind (R.bind (R.bind (R.bind (R.bind (bf 10 JW) fun aaY=>R.bind (R.bind (bf 8 JW) fun aaZ=>R.bind (R.ok []) fun aa0=>R.ok (aaZ::aa0)) fun aa1=>R.ok (aaY::aa1)) fW) iM) fun aa2=>R.ok (!aa2)) fun aa3=>if aa3=true then R.ok true else(R.bind (bf 6 JW) fun aa4=>R.bind (bf 5 JW) fun aa5=>R.bind (R.of (Av aa4 aa5)) iM)) fun aa6=>if aa6=true then(R.bind (R.ok (D.bl false)) fun aa7=>R.ok (Out.rt aa7))else(R.ok (Out.nx JW))) fun S9=>
 (aS (R.bind (R.bind (R.bind (bQ 2 S9) fun aa8=>R.bind (R.bind (bQ 10 S9) fun aa9=>R.bind (R.ok []) fun aba=>R.ok (aa9::aba)) fun abb=>R.ok (aa8::abb)) mj) fun abd=>R.ok (Out.nx (List.set S9 11 (Sl.val abd)))) fun Nc=>
 (R.bind (R.bind (R.bind (R.bind (bf 11 Nc) fun abe=>R.bind (R.bind (bf 2 Nc) fun abf=>R.bind (R.ok []) fun abg=>R.ok (abf::abg)) fun abh=>R.ok (abe::abh)) cA) fun abi=>R.bind (iM abi) fun t=>if t=true then(R.bind (bf 11 Nc) fun abj=>R.bind (bf 5 Nc) fun abk=>R.of (Au abj abk))else R.ok (D.bl false)) fun abl=>R.ok (Out.rt abl))))))))))))))))
def xy:=mS 1 12 Pu
end DL
namespace DL.pO
open PySem PySem.Spec PyProof.Rows L2 DL
def top(i:Nat):Stmt:=PySem.Challenge.pw_braidcomb_k33_forms_words.main.body.getD i (.Pass ⟨0,0,0,0⟩)
abbrev uy:Stmt:=top 4
theorem Dq:az ["word"] ["word"] (ae uy):=oZ
abbrev xA:Stmt:=top 5
theorem pP:az ["word","left","k"] ["word"] (ae xA):=oZ
abbrev vg:Stmt:=top 7
theorem zP:az ["n"] ["n"] (ae vg):=oZ
abbrev ER:Stmt:=top 8
theorem JX:az ["n"] ["n"] (ae ER):=oZ
abbrev sE:Stmt:=top 9
theorem jh:az ["row","places","place","string"] ["row"] (ae sE):=oZ
abbrev xB:Stmt:=top 10
theorem GR:az ["row"] ["row"] (ae xB):=oZ
abbrev yV:Stmt:=top 11
theorem Dr:az ["row"] ["row"] (ae yV):=oZ
abbrev gM:Stmt:=top 12
theorem mm:az ["row","k"] ["row","k"] (ae gM):=oZ
abbrev ie:Stmt:=top 13
theorem nc:az ["row","k"] ["row","k"] (ae ie):=oZ
abbrev vh:Stmt:=top 14
theorem fG:az ["row","word","left","firsts"] ["row"] (ae vh):=oZ
abbrev yW:Stmt:=top 15
theorem nU:az ["n","word","row","k"] ["n","word"] (ae yW):=oZ
abbrev xC:Stmt:=top 16
theorem GU:az ["row"] ["row"] (ae xC):=oZ
abbrev kH:Stmt:=top 17
theorem vH:az ["row"] ["row"] (ae kH):=oZ
abbrev xD:Stmt:=top 20
theorem lL:az ["crossings","bits","k"] ["crossings"] (ae xD):=oZ
abbrev sF:Stmt:=top 23
theorem fZ:az ["n","form","turn","word","row"] ["n","form"] (ae sF):=oZ
abbrev JY:Stmt:=top 24
theorem jZ:az ["n","word","pieces","order","sign_above","k","place","held"] ["n","word"] (ae JY):=oZ
abbrev pQ:Stmt:=top 25
theorem vI:az ["row"] ["row"] (ae pQ):=oZ
abbrev xE:Stmt:=top 26
theorem BP:az ["n","piece"] ["n","piece"] (ae xE):=oZ
abbrev pR:Stmt:=top 27
theorem vJ:az ["halves","row"] ["halves","row"] (ae pR):=oZ
abbrev iP:Stmt:=top 28
theorem bE:az ["steps","rows","halves","step"] ["steps"] (ae iP):=oZ
abbrev iT:Stmt:=top 29
theorem eJ:az ["n","steps","comb","row","found"] ["n","steps"] (ae iT):=oZ
abbrev iU:Stmt:=top 30
theorem sG:az ["n","word"] ["n","word"] (ae iU):=oZ
abbrev ES:Stmt:=top 31
theorem JZ:az ["n","word"] ["n","word"] (ae ES):=oZ
abbrev vj:Stmt:=top 33
theorem zQ:az ["_law_cell","_law_k","_law_factor"] ["_law_cell","_law_k","_law_factor"] (ae vj):=oZ
abbrev oK:Stmt:=top 34
theorem uz:az ["_law_script","_law_k"] ["_law_script","_law_k"] (ae oK):=oZ
abbrev oM:Stmt:=top 35
theorem ng:az ["_law_seed","_law_least_here","_law_most"] ["_law_seed","_law_least_here","_law_most"] (ae oM):=oZ
abbrev pS:Stmt:=top 36
theorem jI:az ["_law_found","_law_due","_law_x","_law_y"] ["_law_found","_law_due"] (ae pS):=oZ
abbrev ni:Stmt:=top 37
theorem lM:az ["_law_number","_law_n","_law_k"] ["_law_number","_law_n"] (ae ni):=oZ
abbrev qO:Stmt:=top 38
theorem kI:az ["_law_number","_law_n","_law_k","_law_other"] ["_law_number","_law_n"] (ae qO):=oZ
abbrev qP:Stmt:=top 39
theorem fj:az ["_law_cells","_law_n","_law_most","_law_word","_law_k","_law_cell"] ["_law_cells","_law_n","_law_most"] (ae qP):=oZ
abbrev nV:Stmt:=top 40
theorem ji:az ["_law_cells","_law_n","_law_most","_law_word","_law_total","_law_at"] ["_law_cells","_law_n","_law_most"] (ae nV):=oZ
abbrev gO:Stmt:=top 41
theorem f9:az ["_law_row","_law_k","_law_made"] ["_law_row","_law_k"] (ae gO):=oZ
abbrev qQ:Stmt:=top 42
theorem dm:az ["_law_row","_law_word","_law_k"] ["_law_row"] (ae qQ):=oZ
abbrev nW:Stmt:=top 43
theorem yr:az ["_law_word"] ["_law_word"] (ae nW):=oZ
abbrev jJ:Stmt:=top 44
theorem dq:az ["_law_found","_law_n","_law_last","_law_row","_law_k"] ["_law_found","_law_n"] (ae jJ):=oZ
abbrev xF:Stmt:=top 45
theorem eM:az ["_law_script","_law_seed","_law_n","_law_first","_law_more","_law_told","_law_handed","_law_turn","_law_due","_law_row","_law_word","_law_again"] ["_law_script"] (ae xF):=oZ
structure Tb(K:PySem.W.Frag)(mg:Str->Option Value) where
 pT:Addr
 pU:FuncData
 sH:Df K mg "turned" uy ["word"] pT pU
 ql:Addr
 qm:FuncData
 uA:Df K mg "trimmed" xA ["word"] ql qm
 iW:Addr
 iX:FuncData
 fq:Df K mg "straight" vg ["n"] iW iX
 xG:Addr
 xH:FuncData
 uB:Df K mg "half" ER ["n"] xG xH
 gP:Addr
 gQ:FuncData
 gR:Df K mg "places_of" sE ["row"] gP gQ
 sI:Addr
 sJ:FuncData
 qo:Df K mg "stops" xB ["row"] sI sJ
 pV:Addr
 pW:FuncData
 kJ:Df K mg "starts" yV ["row"] pV pW
 bh:Addr
 bj:FuncData
 aV:Df K mg "with_crossing_behind" gM ["row","k"] bh bj
 bJ:Addr
 bK:FuncData
 br:Df K mg "with_crossing_ahead" ie ["row","k"] bJ bK
 nX:Addr
 nY:FuncData
 nZ:Df K mg "row_word" vh ["row"] nX nY
 sL:Addr
 sM:FuncData
 sN:Df K mg "row_of" yW ["n","word"] sL sM
 wm:Addr
 wo:FuncData
 zR:Df K mg "ahead" xC ["row"] wm wo
 jj:Addr
 jk:FuncData
 mr:Df K mg "flipped_row" kH ["row"] jj jk
 qp:Addr
 qq:FuncData
 gS:Df K mg "as_bits" xD ["crossings"] qp qq
 lN:Addr
 lP:FuncData
 pX:Df K mg "form_word" sF ["n","form"] lN lP
 ET:Addr
 EU:FuncData
 J0:Df K mg "cut" JY ["n","word"] ET EU
 jl:Addr
 jm:FuncData
 mw:Df K mg "turned_step" pQ ["row"] jl jm
 qr:Addr
 qt:FuncData
 uC:Df K mg "step_of" xE ["n","piece"] qr qt
 jn:Addr
 jo:FuncData
 my:Df K mg "past_halves" pR ["halves","row"] jn jo
 cP:Addr
 cQ:FuncData
 bR:Df K mg "rows_behind_halves" iP ["steps"] cP cQ
 gu:Addr
 gw:FuncData
 jK:Df K mg "form_of_steps" iT ["n","steps"] gu gw
 gx:Addr
 gy:FuncData
 jL:Df K mg "steps_of_word" iU ["n","word"] gx gy
 zS:Addr
 zT:FuncData
 zU:Df K mg "form" ES ["n","word"] zS zT
 iY:Addr
 i6:FuncData
 kK:Df K mg "_law_mix" vj ["_law_cell","_law_k","_law_factor"] iY i6
 ig:Addr
 ik:FuncData
 kL:Df K mg "_law_cell_at" oK ["_law_script","_law_k"] ig ik
 iA:Addr
 iB:FuncData
 kM:Df K mg "_law_strings" oM ["_law_seed","_law_least_here","_law_most"] iA iB
 jq:Addr
 jr:FuncData
 mz:Df K mg "_law_listed" pS ["_law_found","_law_due"] jq jr
 gz:Addr
 gC:FuncData
 jM:Df K mg "_law_crossing" ni ["_law_number","_law_n"] gz gC
 j0:Addr
 j3:FuncData
 n8:Df K mg "_law_piece" qO ["_law_number","_law_n"] j0 j3
 j5:Addr
 j6:FuncData
 n9:Df K mg "_law_drawn" qP ["_law_cells","_law_n","_law_most"] j5 j6
 lQ:Addr
 lR:FuncData
 pY:Df K mg "_law_part" nV ["_law_cells","_law_n","_law_most"] lQ lR
 bX:Addr
 bY:FuncData
 dE:Df K mg "_law_numbers_changed" gO ["_law_row","_law_k"] bX bY
 j7:Addr
 j8:FuncData
 j9:Df K mg "_law_least" qQ ["_law_row"] j7 j8
 lS:Addr
 lT:FuncData
 pZ:Df K mg "_law_back" nW ["_law_word"] lS lT
 iC:Addr
 iD:FuncData
 iF:Df K mg "_law_is_form" jJ ["_law_found","_law_n"] iC iD
 J1:Addr
 EV:FuncData
 Pw:Df K mg "law" xF ["_law_script"] J1 EV
 EY:mg "abs"=none
 zV:mg "bool"=none
 lU:mg "enumerate"=none
 EZ:mg "int"=none
 bF:mg "isinstance"=none
 jT:mg "len"=none
 gI:mg "list"=none
 Px:mg "max"=none
 kc:mg "range"=none
 i7:mg "reversed"=none
 BQ:mg "sorted"=none
 J2:mg "sum"=none
 zW:mg "tuple"=none
 Py:mg "zip"=none
 sO:Tok
 sP:mg "MOST_KEPT"=some (.int 200000 sO)
end DL.pO
namespace DL.H
open PySem PySem.W L2
noncomputable section
def vi(i:Int)(t:Nat):Value:=.int i t
def vs(s:String)(t:Nat):Value:=.str (Str.ofString s) t
def vr(a:Nat):Value:=.ref a
def vy(s:String):Value:=.type s
def vb(s:String):Value:=.builtin s
def vn:Value:=.none
def vt:Value:=.bool true
def vf:Value:=.bool false
def pl:Data:=.plain
def ob(c:Value)(d:Data)(s:List (Option Value)):Obj:=⟨c,none,d,⟨s⟩⟩
def en(P:Params)(x:String)(t:Nat)(v:Value):DictEntry:=⟨PyData.keyHash P (Str.ofString x),.str (Str.ofString x) t,v⟩
def cd(n:String)(b m:List Value)(s:Addr)(q:String)(hd:Bool)(sn:List Str)(su:List Value)(ab:Bool)(c:Option Bool)(de:Bool):ClassData:=⟨Str.ofString n,b,m,s,Str.ofString q,hd,sn,su,ab,c,de⟩
def E:Obj:=ob (vy "tuple") (.seq ⟨[]⟩ 0) []
def F:Obj:=ob vn (.fields ⟨[]⟩) []
def Z:String:="/claim/cut.py"
def nO(s:Stmt):Str:=match s with|.FunctionDef n _ _ _ _ _ _ _ _ _=>n|_=>Str.empty
def lO(s:Stmt):Nat:=match s with|.FunctionDef _ _ _ _ _ _ _ _ _ p=>p.line|_=>0
def tf(s:Stmt)(q:Str):Obj:=⟨.none,none,.func {name:=nO s,qualname:=q,params:=dY s,body:=.stmts (bH s),scope:=ae s,globals:=0,closure:=[],defaults:=.none,kwdefaults:=.none},⟨[]⟩⟩
def hf(n q:Str)(s:Stmt)(m:Value)(c:Nat):Obj:=⟨.type "function",none,.func (fnOf n q (dY s) (bH s) (ae s) .none .none .none m none (.ref c) .none),⟨[]⟩⟩
def cf(n q:Str)(t l k:Nat)(f:Value)(a b:Nat)(x y z:Value)(u:Nat):Obj:=ob (vy "code") (.fields ⟨[.str n t,.str q (t+1),vs Z (t+2),.int l 0,.int k 0,vi 0 0,vi 0 0,f,vr a,.bool (f !=vi 0 0),vi 181 0,vr b,vn,x,y,z,.int u 0,.int l 0,vs Z (u+1)]⟩) []
def tu:List String->Nat->List Value
 |[],_=>[]
 |x::l,t=>vs x t::tu l (t+1)
def Pz(s:Stmt)(q:Str)(a t:Nat)(m:Value)(ns:List String):List Obj:=[E,F,ob (vy "tuple") (.seq ⟨tu ns (t+3)⟩ 0) [],E,tf s q,cf (nO s) q t (lO s) (dY s).args.length (vi 3 0) a (a+1) (vr (a+2)) (vr (a+3)) (vr (a+4)) (t+3+ns.length),hf (nO s) q s m (a+5)]
def fb5(s:Stmt)(q:Str)(a t:Nat)(m:Value):List Obj:=[E,F,tf s q,cf (nO s) q t (lO s) (dY s).args.length (vi 3 0) a (a+1) vn vn (vr (a+2)) (t+3),hf (nO s) q s m (a+3)]
def xb(P:Params)(n:String)(a t:Nat)(m:Value)(b:Nat)(l:Nat):List Obj:=
 [ob (vy "tuple") (.seq ⟨[vr b]⟩ 0) [],ob (vy "builtin_function_or_method") (.fields ⟨[vb "type.__prepare__",vy "type"]⟩) [],
  ob (vy "dict") (.dict ⟨[en P "__module__" (t+5) m,en P "__qualname__" (t+7) (vs n (t+6)),en P "__firstlineno__" (t+9) (.int l (t+8)),en P "__static_attributes__" (t+10) (vr (a+7))]⟩ 4) [],E,F,
  cf (Str.ofString n) (Str.ofString n) t l 0 (vi 0 0) (a+3) (a+4) vn vn vn (t+3),ob (vy "frame") pl [some (vr (a+5)),some (vr 3),some (vr (a+2)),none,some m,none,some (vr 0)],E,
  ob (vy "dict") (.dict ⟨[en P "__module__" (t+5) m,en P "__firstlineno__" (t+9) (.int l (t+8)),en P "__static_attributes__" (t+10) (vr (a+7)),en P "__doc__" (t+11) vn]⟩ 2) [],
  ob (vy "type") (.cls (cd n [vr b] [vr (a+9),vr b,vy "ValueError",vy "Exception",vy "BaseException",vy "object"] (a+8) n true [] [] false none false)) [some (vr a),none,some (vs n (t-2)),some (vs n (t+6)),some (vb "ValueError.__new__"),some vt],
  ob (vy "super") (.fields ⟨[vr (a+9),vr (a+9),vr (a+9)]⟩) [],ob (vy "builtin_function_or_method") (.fields ⟨[vb "object.__init_subclass__",vr (a+9)]⟩) []]
def sp:List Obj->List Obj×List Obj
 |[]=>([],[])
 |x::l=>(x::(sp l).2,(sp l).1)
def bt:Nat->List Obj->BT
 |0,_=>.nil
 |_+1,[]=>.nil
 |n+1,x::l=>.node x (bt n (sp l).1) (bt n (sp l).2)
end
end DL.H
namespace DL.pO.H
open PySem PySem.W DL.H L2
noncomputable section
abbrev pw:Program:=PySem.Challenge.pw_braidcomb_k33_forms_words
abbrev T(i:Nat):Stmt:=DL.pO.top i
def J(i j:Nat):Stmt:=match T i with|.ClassDef _ _ _ b _ _ _ _ _ _ _=>b.getD j (.Pass ⟨0,0,0,0⟩)|s=>s
def M3(P:Params):List DictEntry:=[en P "__doc__" 166 vn,en P "__package__" 167 vn,en P "__loader__" 168 (vb "__main__.__loader__#opaque"),en P "__spec__" 169 vn,en P "__annotations__" 170 (vr 6),en P "__builtins__" 171 (vr 4),en P "__file__" 173 (vs "/claim/cut.py" 172),en P "__cached__" 174 vn,en P "BraidError" 206 (vr 24),en P "NoRow" 222 (vr 37),en P "turned" 230 (vr 44),en P "trimmed" 239 (vr 51),en P "straight" 248 (vr 58),en P "half" 255 (vr 65),en P "places_of" 265 (vr 72),en P "stops" 271 (vr 77),en P "starts" 278 (vr 84),en P "with_crossing_behind" 286 (vr 91),en P "with_crossing_ahead" 294 (vr 98),en P "row_word" 304 (vr 105),en P "row_of" 314 (vr 112),en P "ahead" 320 (vr 117),en P "flipped_row" 326 (vr 122),en P "MOST_KEPT" 330 (vi 200000 329),en P "as_bits" 339 (vr 129),en P "Comb" 445 (vr 193),en P "form_word" 458 (vr 204),en P "cut" 472 (vr 211),en P "turned_step" 479 (vr 218),en P "step_of" 487 (vr 225),en P "past_halves" 495 (vr 232),en P "rows_behind_halves" 505 (vr 239),en P "form_of_steps" 511 (vr 244),en P "steps_of_word" 517 (vr 249),en P "form" 525 (vr 256),en P "_law_mix" 536 (vr 263),en P "_law_cell_at" 544 (vr 270),en P "_law_strings" 553 (vr 277),en P "_law_listed" 563 (vr 284),en P "_law_crossing" 572 (vr 291),en P "_law_piece" 582 (vr 298),en P "_law_drawn" 594 (vr 305),en P "_law_part" 600 (vr 310),en P "_law_numbers_changed" 609 (vr 317),en P "_law_least" 618 (vr 324),en P "_law_back" 624 (vr 329),en P "_law_is_form" 630 (vr 334),en P "law" 636 (vr 339)]
def m3(P:Params)(v:Value)(k e:Nat):Obj:=ob (vy "dict") (.dict ⟨en P "__name__" 165 v::(M3 P).take k⟩ e) []
def L12:List (Nat×Nat):=[(2,20),(4,33),(7,43),(9,50),(18,57),(20,64),(22,71),(27,76),(29,83),(31,90),(33,97),(35,104),(44,111),(53,116),(55,121),(59,128),(64,135),(137,203),(146,210),(161,217),(163,224),(167,231),(171,238),(179,243),(185,248),(187,255),(190,262),(192,269),(196,276),(201,283),(208,290),(213,297),(219,304),(225,309),(232,316),(237,323),(248,328),(250,333),(266,338)]
def Uu(k:Nat):Obj:=ob vn (.fields ⟨(L12.take k).flatMap fun x=>[.int x.1 0,vi 0 0,vr x.2]⟩) []
def w0:Value:=vs "braidcomb.errors" 187
def w1:Value:=vs "braidcomb.words" 223
def w2:Value:=vs "braidcomb.rows" 240
def w3:Value:=vs "braidcomb.sliding" 327
def w4:Value:=vs "braidcomb.forms" 446
def w5:Value:=vs "law_braidcomb_k33_forms_words" 526
def f7(i a t:Nat)(m:Value)(ns:List String):List Obj:=Pz (T i) (nO (T i)) a t m ns
def f5(i a t:Nat)(m:Value):List Obj:=fb5 (T i) (nO (T i)) a t m
def FL(P:Params):List Obj:=[boot_o_0 P,boot_o_1 P,boot_o_2 P,m3 P w5 48 49,boot_o_4 P,boot_o_5 P,boot_o_6 P,boot_o_7 P,boot_o_8 P,boot_o_9 P,boot_o_10 P]
 ++[E,(Uu 39),(ob (vy "code") (.fields ⟨[(vs "<module>" 182),(vs "<module>" 183),(vs "/claim/cut.py" 184),(vi 1 0),(vi 0 0),(vi 0 0),(vi 0 0),(vi 0 0),(vr 11),vf,(vi 181 0),(vr 12),vn,vn,vn,vn,(vi 185 0),(vi 1 0),(vs "/claim/cut.py" 186)]⟩) []),(ob (vy "frame") pl [(some (vr 13)),(some (vr 3)),(some (vr 3)),none,(some (vs "__main__" 164)),none,(some (vr 0))]),(ob (vy "tuple") (.seq ⟨[(vy "ValueError")]⟩ 0) []),(ob (vy "builtin_function_or_method") (.fields ⟨[(vb "type.__prepare__"),(vy "type")]⟩) []),(ob (vy "dict") (.dict ⟨[(en P "__module__" 196 (vs "braidcomb.errors" 187)),(en P "__qualname__" 198 (vs "BraidError" 197)),(en P "__firstlineno__" 200 (vi 2 199)),(en P "__static_attributes__" 201 (vr 22))]⟩ 4) []),E,F,(ob (vy "code") (.fields ⟨[(vs "BraidError" 191),(vs "BraidError" 192),(vs "/claim/cut.py" 193),(vi 2 0),(vi 0 0),(vi 0 0),(vi 0 0),(vi 0 0),(vr 18),vf,(vi 181 0),(vr 19),vn,vn,vn,vn,(vi 194 0),(vi 2 0),(vs "/claim/cut.py" 195)]⟩) []),(ob (vy "frame") pl [(some (vr 20)),(some (vr 3)),(some (vr 17)),none,(some (vs "braidcomb.errors" 187)),none,(some (vr 0))]),E,(ob (vy "dict") (.dict ⟨[(en P "__module__" 196 (vs "braidcomb.errors" 187)),(en P "__firstlineno__" 200 (vi 2 199)),(en P "__static_attributes__" 201 (vr 22)),(en P "__weakref__" 203 (vr 25)),(en P "__doc__" 204 vn)]⟩ 3) []),(ob (vy "type") (.cls (cd "BraidError" [(vy "ValueError")] [(vr 24),(vy "ValueError"),(vy "Exception"),(vy "BaseException"),(vy "object")] 23 "BraidError" true [] [(vr 37)] false none false)) [(some (vr 15)),none,(some (vs "BraidError" 189)),(some (vs "BraidError" 197)),(some (vb "ValueError.__new__")),(some vt)]),(ob (vy "getset_descriptor") (.fields ⟨[(vs "__weakref__" 202),(vr 24),(vb "ExceptionGroup.__weakref__"),vn]⟩) []),(ob (vy "super") (.fields ⟨[(vr 24),(vr 24),(vr 24)]⟩) []),(ob (vy "builtin_function_or_method") (.fields ⟨[(vb "object.__init_subclass__"),(vr 24)]⟩) [])]
 ++xb P "NoRow" 28 209 w0 24 4
 ++f5 4 40 225 w1
 ++f7 5 45 231 w1 ["word","left","k"]
 ++f7 7 52 242 w2 ["n"]
 ++f7 8 59 249 w2 ["n"]
 ++f7 9 66 256 w2 ["row","places","place","string"]
 ++f5 10 73 266 w2
 ++f7 11 78 272 w2 ["row"]
 ++f7 12 85 279 w2 ["row","k"]
 ++f7 13 92 287 w2 ["row","k"]
 ++f7 14 99 295 w2 ["row","word","left","firsts"]
 ++f7 15 106 305 w2 ["n","word","row","k"]
 ++f5 16 113 315 w2
 ++f5 17 118 321 w2
 ++f7 20 123 331 w3 ["crossings","bits","k"]
 ++[E,(ob (vy "builtin_function_or_method") (.fields ⟨[(vb "type.__prepare__"),(vy "type")]⟩) []),(ob (vy "dict") (.dict ⟨[(en P "__module__" 347 w3),(en P "__qualname__" 349 (vs "Comb" 348)),(en P "__firstlineno__" 351 (vi 64 350)),(en P "__init__" 359 (vr 143)),(en P "number_of" 368 (vr 150)),(en P "without_first" 378 (vr 157)),(en P "with_last" 388 (vr 164)),(en P "slide" 399 (vr 171)),(en P "slide_kept" 410 (vr 178)),(en P "put" 421 (vr 185)),(en P "form_told" 427 (vr 190)),(en P "__static_attributes__" 438 (vr 191))]⟩ 12) []),E,(ob vn (.fields ⟨[(vi 66 0),(vi 4 0),(vr 142),(vi 78 0),(vi 4 0),(vr 149),(vi 87 0),(vi 4 0),(vr 156),(vi 93 0),(vi 4 0),(vr 163),(vi 99 0),(vi 4 0),(vr 170),(vi 108 0),(vi 4 0),(vr 177),(vi 117 0),(vi 4 0),(vr 184),(vi 131 0),(vi 4 0),(vr 189)]⟩) []),(ob (vy "code") (.fields ⟨[(vs "Comb" 342),(vs "Comb" 343),(vs "/claim/cut.py" 344),(vi 64 0),(vi 0 0),(vi 0 0),(vi 0 0),(vi 0 0),(vr 133),vf,(vi 181 0),(vr 134),vn,vn,vn,vn,(vi 345 0),(vi 64 0),(vs "/claim/cut.py" 346)]⟩) []),(ob (vy "frame") pl [(some (vr 135)),(some (vr 3)),(some (vr 132)),none,(some w3),none,(some (vr 0))])]
 ++Pz (J 21 0) "Comb.__init__" 137 352 w3 ["self","n"]
 ++Pz (J 21 1) "Comb.number_of" 144 360 w3 ["self","row","key"]
 ++Pz (J 21 2) "Comb.without_first" 151 369 w3 ["self","number","k","step"]
 ++Pz (J 21 3) "Comb.with_last" 158 379 w3 ["self","number","k","step"]
 ++Pz (J 21 4) "Comb.slide" 165 389 w3 ["self","one","other","free","k"]
 ++Pz (J 21 5) "Comb.slide_kept" 172 400 w3 ["self","one","other","pair","found"]
 ++Pz (J 21 6) "Comb.put" 179 411 w3 ["self","row","line","place","pair"]
 ++fb5 (J 21 7) "Comb.form_told" 186 422 w3
 ++[(ob (vy "tuple") (.seq ⟨[(vs "firsts" 428),(vs "kept" 429),(vs "known" 430),(vs "lasts" 431),(vs "line" 432),(vs "longer" 433),(vs "none" 434),(vs "numbers" 435),(vs "shorter" 436),(vs "whole" 437)]⟩ 0) []),(ob (vy "dict") (.dict ⟨[(en P "__module__" 347 w3),(en P "__firstlineno__" 351 (vi 64 350)),(en P "__init__" 359 (vr 143)),(en P "number_of" 368 (vr 150)),(en P "without_first" 378 (vr 157)),(en P "with_last" 388 (vr 164)),(en P "slide" 399 (vr 171)),(en P "slide_kept" 410 (vr 178)),(en P "put" 421 (vr 185)),(en P "form_told" 427 (vr 190)),(en P "__static_attributes__" 438 (vr 191)),(en P "__dict__" 440 (vr 194)),(en P "__weakref__" 442 (vr 195)),(en P "__doc__" 443 vn)]⟩ 4) []),(ob (vy "type") (.cls (cd "Comb" [(vy "object")] [(vr 193),(vy "object")] 192 "Comb" true [] [] false none false)) [none,none,(some (vs "Comb" 340)),(some (vs "Comb" 348)),(some (vb "object.__new__")),(some vt)]),(ob (vy "getset_descriptor") (.fields ⟨[(vs "__dict__" 439),(vr 193),(vb "function.__dict__"),(vb "function.__dict__#set")]⟩) []),(ob (vy "getset_descriptor") (.fields ⟨[(vs "__weakref__" 441),(vr 193),(vb "ExceptionGroup.__weakref__"),vn]⟩) []),(ob (vy "super") (.fields ⟨[(vr 193),(vr 193),(vr 193)]⟩) []),(ob (vy "builtin_function_or_method") (.fields ⟨[(vb "object.__init_subclass__"),(vr 193)]⟩) [])]
 ++f7 23 198 448 w4 ["n","form","turn","word","row"]
 ++f7 24 205 459 w4 ["n","word","pieces","order","sign_above","k","place","held"]
 ++f7 25 212 473 w4 ["row"]
 ++f7 26 219 480 w4 ["n","piece"]
 ++f7 27 226 488 w4 ["halves","row"]
 ++f7 28 233 496 w4 ["steps","rows","halves","step"]
 ++f5 29 240 506 w4
 ++f5 30 245 512 w4
 ++f7 31 250 518 w4 ["n","word"]
 ++f7 33 257 528 w5 ["_law_cell","_law_k","_law_factor"]
 ++f7 34 264 537 w5 ["_law_script","_law_k"]
 ++f7 35 271 545 w5 ["_law_seed","_law_least_here","_law_most"]
 ++f7 36 278 554 w5 ["_law_found","_law_due","_law_x","_law_y"]
 ++f7 37 285 564 w5 ["_law_number","_law_n","_law_k"]
 ++f7 38 292 573 w5 ["_law_number","_law_n","_law_k","_law_other"]
 ++f7 39 299 583 w5 ["_law_cells","_law_n","_law_most","_law_word","_law_k","_law_cell"]
 ++f5 40 306 595 w5
 ++f7 41 311 601 w5 ["_law_row","_law_k","_law_made"]
 ++f7 42 318 610 w5 ["_law_row","_law_word","_law_k"]
 ++f5 43 325 619 w5
 ++f5 44 330 625 w5
 ++f5 45 335 631 w5
def as:List Addr:=2::3::(range 329).map (·+11)
def K(P:Params):Frag:=as.map fun a=>(a,(FL P).getD a E)
def q:Program:=view pw [1,2,4,5,7,8,9,10,11,12,13,14,15,16,17,19,20,21,23,24,25,26,27,28,29,30,31,33,34,35,36,37,38,39,40,41,42,43,44,45]
def env:Env:={scope:=pw.main.scope,locals:=mainNs,globals:=mainNs,cells:=[],code:=vr 13,frame:=some 14}
def bd:List Stmt:=behindTheImports pw
abbrev cE:Code:=.body bd env
abbrev fr:List Frame:=[topFrame ⟨0,0,0,0⟩]
abbrev an:Option Value:=(some (vr 6))
def S(P:Params):Nat->List Obj
 |0=>(((FL P).take 15).set 12 (Uu 0)).set 3 (boot_o_3 P)
 |1=>(((FL P).take 45).set 3 (m3 P w1 11 12)).set 12 (Uu 3)
 |2=>(((FL P).take 130).set 3 (m3 P w3 25 26)).set 12 (Uu 16)
 |3=>(((FL P).take 198).set 3 (m3 P w3 26 27)).set 12 (Uu 17)
 |4=>(((FL P).take 292).set 3 (m3 P w5 40 41)).set 12 (Uu 31)
 |5=>(FL P).take 340
 |_=>[]
abbrev st(i n t:Nat)(w:World)(os:OsState):SharedT:=⟨bt 12 (S w.params i),n,(boot_heap w.params).life,⟨[]⟩,boot_drawn,t,os⟩
theorem pre(w:World)(os:OsState):topGo treeTable pw w 11 an 12 ⟨boot_heap w.params,⟨[]⟩,boot_drawn,boot_toks,os⟩ (topStub pw)=some ((st 0 15 187 w os).abs,⟨denote treeTable cE,cE,⟨0,0,0,0⟩,fr⟩):=by kernel_rfl
theorem blk(w:World)(os:OsState):segRun treeTable pw w 11 an 1 1 (st 0 15 187 w os).abs (blockOf bd env cE ⟨0,0,0,0⟩ fr)=some (.next,(st 0 15 187 w os).abs,cE,⟨0,0,0,0⟩):=by kernel_rfl
abbrev Pc(N i n t d k:Nat)(p:Pos)(n2 t2:Nat)(p2:Pos)(w:World)(os:OsState):Prop:=segRunT treeTable pw w 11 an 1 N (st i n t w os) (piecesOf ((bd.drop d).take k) env cE p fr)=some (.next,st (i+1) n2 t2 w os,cE,p2)
theorem pc0(w:World)(os:OsState):Pc 444 0 15 187 0 5 ⟨0,0,0,0⟩ 45 231 ⟨7,0,8,39⟩ w os:=by kernel_rfl
theorem pc1(w:World)(os:OsState):Pc 411 1 45 231 5 16 ⟨7,0,8,39⟩ 130 340 ⟨59,0,63,15⟩ w os:=by kernel_rfl
theorem pc2(w:World)(os:OsState):Pc 466 2 130 340 21 1 ⟨59,0,63,15⟩ 198 446 ⟨64,0,135,80⟩ w os:=by kernel_rfl
theorem pc3(w:World)(os:OsState):Pc 446 3 198 446 22 16 ⟨64,0,135,80⟩ 292 573 ⟨208,0,212,17⟩ w os:=by kernel_rfl
theorem pc4(w:World)(os:OsState):Pc 233 4 292 573 38 8 ⟨208,0,212,17⟩ 340 637 ⟨266,0,285,71⟩ w os:=by kernel_rfl
theorem fin(w:World)(os:OsState):topRun treeTable pw w 11 an 2 (st 5 340 637 w os).abs (restOf [] env cE ⟨266,0,285,71⟩ fr)=some (st 5 340 637 w os).abs:=by kernel_rfl
theorem cut:bd=((bd.drop 0).take 5++((bd.drop 5).take 16++((bd.drop 21).take 1++((bd.drop 22).take 16++((bd.drop 38).take 8++[]))))):=by kernel_rfl
theorem rest{tb:String->Option Builtin}{p:Program}{w:World}{n₀ N:Nat}{ann:Option Value}{s r:Shared}{b b':List Stmt}{e:Env}{c:Code}{ps:Pos}{B:List Frame}(h:b=b')(k:topRun tb p w n₀ ann N s (restOf b' e c ps B)=some r):topRun tb p w n₀ ann N s (restOf b e c ps B)=some r:=h▸k
theorem run(w:World)(os:OsState):topRun treeTable pw w 11 an (12+(1+(444+(411+(466+(446+(233+2))))))) ⟨boot_heap w.params,⟨[]⟩,boot_drawn,boot_toks,os⟩ (topStub pw)=some (st 5 340 637 w os).abs:=go_top (pre w os) (piece_block (blk w os) (rest cut (piece_app (segRun_of (pc0 w os)) (piece_app (segRun_of (pc1 w os)) (piece_app (segRun_of (pc2 w os)) (piece_app (segRun_of (pc3 w os)) (piece_app (segRun_of (pc4 w os)) (fin w os))))))))
def lo:List Str:=[]
def hk:Hook:=kHook K as (fun _=>by kernel_rfl)
def Xt(s:Shared):Bool:=xlAt q [] s&&recOk (OpenLaw.row PySem.Challenge.rw_braidcomb_k33_forms_words).toRowW.records s
abbrev H1(P:Params):Heap:=absHeap (bt 12 (S P 5)) 340 (boot_heap P).life
theorem WC(w:World)(os:OsState):(staticsOk (importedModules pw.main.body) (boot_heap w.params) (H1 w.params)&&namesBound pw (H1 w.params)&&gensDone ⟨H1 w.params,⟨[]⟩,boot_drawn,637,os⟩&&laidKept (boot_heap w.params) (H1 w.params))=true:=by kernel_rfl
theorem WD(w:World)(os:OsState):(openSeen q lo (importedModules pw.main.body) Xt true ⟨H1 w.params,⟨[]⟩,boot_drawn,637,os⟩)=openGood q lo:=by kernel_rfl
theorem WE(w:World)(os:OsState):(hk.obs ⟨H1 w.params,⟨[]⟩,boot_drawn,637,os⟩)=hk.val w:=by kernel_rfl
theorem o1:opening pw=plainProg pw.main.scope.names:=by kernel_rfl
theorem o2(s:Shared):fenceModules? pw s=some s:=by kernel_rfl
theorem o3:ble 600 4116=true:=by kernel_rfl
theorem op(w:World):(fencedOpening treeTable pw w 4116).map (fun s=>(s.heap,s.gens,s.drawn,s.toks))=some (boot_heap w.params,⟨[]⟩,boot_drawn,boot_toks):=boot_open o1 o3 o2 w
theorem sz(w:World):((boot_heap w.params).isNs mainGlobals&&(⟨[]⟩:Array GenState).size==0,(boot_heap w.params).objs.size,(boot_heap w.params).nsMap mainGlobals "__annotations__")=(true,11,an):=by kernel_rfl
theorem le:ble (12+(1+(444+(411+(466+(446+(233+2))))))) 4116=true:=by kernel_rfl
theorem ab(w:World)(os:OsState):some (st 5 340 637 w os).abs=some ⟨H1 w.params,⟨[]⟩,boot_drawn,637,os⟩:=by kernel_rfl
theorem run'(w:World)(os:OsState):topRun treeTable pw w 11 an (12+(1+(444+(411+(466+(446+(233+2))))))) ⟨boot_heap w.params,⟨[]⟩,boot_drawn,boot_toks,os⟩ (topStub pw)=some ⟨H1 w.params,⟨[]⟩,boot_drawn,637,os⟩:=Eq.trans (run w os) (ab w os)
theorem left:LeftO pw q lo Xt hk.obs hk.val 4116 true:=
 @LeftO.of_pieces pw q lo Xt hk.α hk.obs hk.val 4116 true boot_heap H1 ⟨[]⟩ ⟨[]⟩ boot_drawn boot_drawn boot_toks 637 11 an (12+(1+(444+(411+(466+(446+(233+2))))))) op sz run' le (fun w=>funext fun os=>Prod.ext (WC w os) (Prod.ext (WD w os) (WE w os)))
end
end DL.pO.H
namespace DL.pO
open PySem PySem.Spec PyProof.Rows L2 DL
abbrev J3:Stmt:=inClass (top 21) 1
structure Lw(K:PySem.W.Frag)(mg:Str->Option Value)(C:Addr):Prop where
 cl:HW K C
 kn:fK K C "known"
 nu:fK K C "numbers"
 fi:fK K C "firsts"
 la:fK K C "lasts"
 sh:fK K C "shorter"
 lo:fK K C "longer"
 ke:fK K C "kept"
 li:fK K C "line"
 no:fK K C "none"
 wh:fK K C "whole"
 mgC:mg "Comb"=some (.ref C)
 mtu:mg "tuple"=none
 mli:mg "list"=none
 Yg:mg "len"=none
def BR(K:PySem.W.Frag)(C:Addr):Sp:=fun vs H Q _=>∃(a:Addr)(A:Ad)(ex:List (Str×V))(n:Nat)(kn:List RP)(ln:List Int)(B:Nat)(nu sh lo ke:List (List Key×V))(p:RP)(v:V),
 vs=[.ref a,v]/\iI C H a A ex n kn ln B nu sh lo ke/\n<=7/\B<1000000/\Iv n p.1 p.2/\Is K (fun x=>x∉a::A.all) H (.lst (aA p.1)) v/\
 ∀(i:Nat)(H':Hp)(A':Ad)(mo:List RP)(Ds:List (List Key×V)),iI C H' a A' ex n (kn++mo) ln (B+1) Ds sh lo ke->(kn++mo)[i]?=some p->iJ H H' (a::A.all) (a::A'.all)->A'.li=A.li->Q (.int i) H'
section
variable{P:Program}{w:World}{K:PySem.W.Frag}{mg:Str->Option Value}{base:Heap}
theorem sc1:az ["self","row","key"] ["self","row"] (ae J3):=⟨rfl,rfl,rfl,by decide +kernel,rfl,by decide +kernel,by decide +kernel⟩
theorem Tc{f C:Addr}{fd:FuncData}(F:AM K "number_of" "Comb.number_of" J3 f fd)(T:Lw K mg C)(t:Tb K mg)
  (kN:jD P w K mg base 2 t.pV t.pW ["row"] ky)(qu:jD P w K mg base 1 t.sI t.sJ ["row"] qi)(Ka:Ok P w K mg base 1 t.qp t.qq ["crossings"] mW)
  (PB:∀ks:List Int,(∀k∈ks,1<=k/\k<=7)->mW [.lst (aA ks)]=.ok (.int (Dl ks))):cu P w K mg base lB 3 f fd ["self","row"] (BR K C):=by
 refine F.ok sc1 (fun vs H Q E h=>?_) (fun cdv A outer s H vs Q E hr h=>?_)
 ·obtain⟨a,A,ex,n,kn,ln,B,nu,sh,lo,ke,p,v,rfl,_⟩:=h
  rfl
 ·obtain⟨a,A,ex,n,kn,ln,B,nu,sh,lo,ke,p,v,rfl,c,hn,hB,iv,Hr,k⟩:=h
  have hu:=rC hr
  refine⟨_,aC (cY (i:=2) sc1.nd rfl (Or.inl rfl) (qg yb (by rfl) T.mtu A8 (aw (pv 1) aJ)))
   (aC (uR (Cy (tZ hu (pv 2) (bA (pv 0) rfl)))
    (aC (vQ hu (bA (pv 0) rfl) (pv 2) (jt nE (by rfl) T.Yg dQ (aw (bA (pv 0) rfl) aJ)) rfl)
    (aC (gf (rB plainAttrs_list PySem.F.slot_list_append PySem.F.type_list_append fy (bA (pv 0) rfl) (aw (qg nG (by rfl) T.mli lF (aw (pv 1) aJ)) aJ)) rfl)
    (aC (gf (rB plainAttrs_list PySem.F.slot_list_append PySem.F.type_list_append fy (bA (pv 0) rfl) (aw (dX (E:=fun _ _ _=>False) Ka (hr.mono (by decide)) (by rfl) t.gS.m t.gS.F.kp t.gS.b .nil lD (aw (dX (E:=fun _ _ _=>False) kN (hr.mono (by decide)) (by rfl) t.kJ.m t.kJ.F.kp t.kJ.b .nil lD (aw (pv 1) aJ)) aJ)) aJ)) rfl)
    (bU (gf (rB plainAttrs_list PySem.F.slot_list_append PySem.F.type_list_append fy (bA (pv 0) rfl) (aw (dX (E:=fun _ _ _=>False) Ka (hr.mono (by decide)) (by rfl) t.gS.m t.gS.F.kp t.gS.b .nil lD (aw (dX (E:=fun _ _ _=>False) qu (hr.mono (by decide)) (by rfl) t.qo.m t.qo.F.kp t.qo.b .nil lD (aw (pv 1) aJ)) aJ)) aJ)) rfl))))) ly)
   (bU (lW (zq hu (bA (pv 0) rfl) (pv 2) (fun _ _=>rfl))))),?_⟩
  obtain⟨b,vs,rfl,lb,il⟩:=id Hr
  have ev:=gh il
  subst ev
  refine⟨_,rfl,b,_,rfl,.inl ⟨lb.sq,fun l hl=>?_⟩⟩
  have s1:aH H (upd H l (.tup (p.1.map V.int))):=aI hl _
  have c1:=c.same s1
  have hkey:(upd H l (.tup (p.1.map V.int))) l=some (.tup ((kk p.1).map kV)):=by rw[aaw];exact ar
  have zX:=iJ.same s1 (a::A.all)
  generalize hH1:upd H l (.tup (p.1.map V.int))=H1 at s1 c1 hkey zX
  refine⟨_,rfl,_,rfl,a,C,A.dx,_,_,rfl,c1.ob,T.cl,T.nu,Ez,A.nu,_,rfl,nH.t c1.yo hkey,_,rfl,?_⟩
  by_cases hm:∃q∈kn,q.1=p.1
  ·obtain⟨q,hq,eq⟩:=hm
   have hqp:q=p:=jS (c.rw q hq) iv eq
   subst hqp
   obtain⟨i,hi,ei⟩:=getElem_of_mem hq
   have wM:kn[i]?=some q:=by rw[getElem?_eq_getElem hi,ei]
   have hv:=c.n1 i q wM
   rw[hv]
   refine tX ?_
   refine⟨_,rfl,a,C,A.dx,_,_,rfl,c1.ob,T.cl,T.nu,Ez,_,rfl,A.nu,.int i,rfl,?_,?_⟩
   ·have:=nH.t (k:=kk q.1) c1.yo hkey
    rw[hv]at this
    exact this
   ·exact k i H1 A [] nu (by rw[append_nil];exact c1.more (by omega)) (by rw[append_nil];exact wM) zX rfl
  ·have hv:cZ nu (kk p.1)=none:=c.n2 p.1 fun q hq e=>hm ⟨q,hq,e⟩
   rw[hv]
   refine vq ?_
   have hz:=c.z
   obtain⟨⟨n1,n2,n3,n4,n5,n6⟩,⟨m1,m2,m3,m4,m5,m6⟩,SV,⟨d1,d2,d3,d4,d5,d6,d7,d8,d9⟩,Wx⟩:=c.SS
   have big:∀{x:Nat},x<=1000001->x<sizeLine:=fun h=>Nat.lt_of_le_of_lt h (by decide)
   have Nd:∀x∈A.hd,x∈a::A.all:=fun x hx=>mem_cons_of_mem _ (mem_append_left _ hx)
   refine⟨_,rfl,a,C,A.dx,_,_,rfl,c1.ob,T.cl,T.kn,yT,A.kn,_,rfl,.inl (ck.of c1.hkn),_,rfl,a,C,A.dx,_,_,rfl,c1.ob,T.cl,T.nu,Ez,_,rfl,A.nu,_,rfl,AR.t c1.yo hkey (big (by omega)),?_⟩
   rw[length_map,c.BD]
   have k1n:A.kn≠A.nu:=bO c.hkn c.yo (by intro z;cases z)
   have fin:A.fi≠A.nu:=bO c.xX c.yo (by intro z;cases z)
   have lan:A.la≠A.nu:=bO c.hla c.yo (by intro z;cases z)
   have an:a≠A.nu:=bO c.ob c.yo (by intro z;cases z)
   have akn:a≠A.kn:=bO c.ob c.hkn (by intro z;cases z)
   have afi:a≠A.fi:=bO c.ob c.xX (by intro z;cases z)
   have ala:a≠A.la:=bO c.ob c.hla (by intro z;cases z)
   have ln1:l≠A.nu:=fun z=>by rw[z,c.yo]at hl;cases hl
   generalize hH2:upd H1 A.nu (.dT (putK nu (kk p.1) (.int (kn.length:Int))))=H2
   have WG:H2 a=some (.ins C A.dx (vC A++ex)):=by rw[<-hH2,ah an];exact c1.ob
   have PD:H2 A.kn=some (.lst (A.ks.map V.ref)):=by rw[<-hH2,ah k1n];exact c1.hkn
   have Dt:iJ H H2 (a::A.all) (a::A.all):=zX.trans (by rw[<-hH2];exact iJ.upd (Nd _ (by simp[Ad.hd])) _)
   have lb2:vv K (fun _=>True) H2 b (p.1.map V.int):=lb.ext ⟨fun _ _ _ _=>trivial,fun x o px hx=>Dt.kp x o px hx⟩
   refine⟨_,rfl,a,C,A.dx,_,_,rfl,WG,T.cl,T.kn,yT,.inl ⟨rfl,_,ck.of PD⟩,_,rfl,b,_,rfl,.inl lb2.sq,fun l2 hl2=>?_⟩
   have Uq:H l2=none:=Dt.gr l2 hl2
   have l2k:A.kn≠l2:=fun z=>by rw[<-z,PD]at hl2;cases hl2
   refine⟨A.kn,A.ks.map V.ref,.ref l2,rfl,rfl,by rw[ah l2k];exact PD,by rw[length_map,c.BD];exact big (by omega),?_⟩
   generalize Lx:upd (upd H2 l2 (.lst (p.1.map V.int))) A.kn (.lst (A.ks.map V.ref++[.ref l2]))=H3
   have tP:iJ H H3 (a::A.all) (a::A.all):=by
    rw[<-Lx]
    exact(Dt.trans (iJ.same (aI hl2 _) _)).trans (iJ.upd (Nd _ (by simp[Ad.hd])) _)
   have WH:H3 a=some (.ins C A.dx (vC A++ex)):=by rw[<-Lx,ah akn];exact aI hl2 _ _ _ WG
   have fi3:H3 A.fi=some (.lst (kn.map fun p=>V.int (vD p.2))):=by
    rw[<-Lx,ah (Ne.symm n1)]
    refine aI hl2 _ _ _ ?_
    rw[<-hH2,ah fin]
    exact c1.xX
   have lb3:vv K (fun _=>True) H3 b (p.1.map V.int):=lb.ext ⟨fun _ _ _ _=>trivial,fun x o px hx=>tP.kp x o px hx⟩
   refine⟨_,rfl,a,C,A.dx,_,_,rfl,WH,T.cl,T.fi,JE,.inl ⟨rfl,_,ck.of fi3⟩,_,rfl,_,[.lst (aA p.1)],⟨.ref b,[],rfl,⟨b,_,rfl,lb3,bW p.1⟩,rfl⟩,?_⟩
   have hd7:∀(m:Nat)(x y:List Int),m<=7->Iv m x y->∀k∈se y,1<=k/\k<=7:=fun m x y hm h k hk=>by
    obtain⟨a',e,h1,_⟩:=lK.mp hk
    rw[h.ls]at h1
    omega
   rw[ur iv hn]
   intro q ws H4 s4 hq4 hw4 iw4
   have ew:=gh iw4
   subst ew
   refine⟨fun _=>True,[.lst (aA (se p.2))],⟨.ref q,[],rfl,⟨q,_,rfl,.inl ⟨trivial,.inl hw4⟩,bW _⟩,rfl⟩,?_⟩
   rw[PB _ (hd7 n p.1 p.2 hn iv)]
   intro v5 H5 s5 i5
   have e5:v5=.int (Dl (se p.2)):=i5
   subst e5
   have Ng:=s4.trans s5
   refine⟨A.fi,_,.int (vD p.2),rfl,rfl,Ng _ _ fi3,by rw[length_map];exact big (by omega),?_⟩
   generalize Ly:upd H5 A.fi (.lst ((kn.map fun p=>V.int (vD p.2))++[V.int (vD p.2)]))=H6
   have Yh:iJ H H6 (a::A.all) (a::A.all):=by
    rw[<-Ly]
    exact(tP.trans (iJ.same Ng _)).trans (iJ.upd (Nd _ (by simp[Ad.hd])) _)
   have Yi:H6 a=some (.ins C A.dx (vC A++ex)):=by rw[<-Ly,ah afi];exact Ng _ _ WH
   have la6:H6 A.la=some (.lst (kn.map fun p=>V.int (vD p.1))):=by
    rw[<-Ly,ah (Ne.symm n4)]
    refine Ng _ _ ?_
    rw[<-Lx,ah (Ne.symm n2)]
    refine aI hl2 _ _ _ ?_
    rw[<-hH2,ah lan]
    exact c1.hla
   have lb6:vv K (fun _=>True) H6 b (p.1.map V.int):=lb.ext ⟨fun _ _ _ _=>trivial,fun x o px hx=>Yh.kp x o px hx⟩
   refine⟨_,rfl,a,C,A.dx,_,_,rfl,Yi,T.cl,T.la,JF,.inl ⟨rfl,_,ck.of la6⟩,_,rfl,_,[.lst (aA p.1)],⟨.ref b,[],rfl,⟨b,_,rfl,lb6,bW p.1⟩,rfl⟩,?_⟩
   rw[BA p.1 (by rw[iv.lr];exact hn)]
   intro q7 ws7 H7 s7 hq7 hw7 iw7
   have ew7:=gh iw7
   subst ew7
   refine⟨fun _=>True,[.lst (aA (se p.1))],⟨.ref q7,[],rfl,⟨q7,_,rfl,.inl ⟨trivial,.inl hw7⟩,bW _⟩,rfl⟩,?_⟩
   rw[PB _ (hd7 n p.2 p.1 hn iv.symm)]
   intro v8 H8 s8 i8
   have e8:v8=.int (Dl (se p.1)):=i8
   subst e8
   have PF:=s7.trans s8
   refine⟨A.la,_,.int (vD p.1),rfl,rfl,PF _ _ la6,by rw[length_map];exact big (by omega),?_⟩
   generalize PH:upd H8 A.la (.lst ((kn.map fun p=>V.int (vD p.1))++[V.int (vD p.1)]))=H9
   have fr9:iJ H H9 (a::A.all) (a::A.all):=by
    rw[<-PH]
    exact(Yh.trans (iJ.same PF _)).trans (iJ.upd (Nd _ (by simp[Ad.hd])) _)
   have keep:∀x o,x≠A.nu->x≠A.kn->x≠A.fi->x≠A.la->H x=some o->H9 x=some o:=fun x o x1 x2 x3 x4 hx=>by
    rw[<-PH,ah x4]
    refine PF _ _ ?_
    rw[<-Ly,ah x3]
    refine Ng _ _ ?_
    rw[<-Lx,ah x2]
    refine aI hl2 _ _ _ ?_
    rw[<-hH2,ah x1]
    exact s1 _ _ hx
   have Yc:H9 a=some (.ins C A.dx (vC A++ex)):=keep a _ an akn afi ala c.ob
   have Yd:H9 A.nu=some (.dT (putK nu (kk p.1) (.int (kn.length:Int)))):=by
    rw[<-PH,ah (Ne.symm lan)]
    refine PF _ _ ?_
    rw[<-Ly,ah (Ne.symm fin)]
    refine Ng _ _ ?_
    rw[<-Lx,ah (Ne.symm k1n)]
    refine aI hl2 _ _ _ ?_
    rw[<-hH2]
    exact ar
   have abm:H9 l=some (.tup ((kk p.1).map kV)):=by
    have lk:∀{x:Addr}{o:HO},H x=some o->l≠x:=fun hx z=>by rw[z,hx]at hl;cases hl
    rw[<-PH,ah (lk c.hla)]
    refine PF _ _ ?_
    rw[<-Ly,ah (lk c.xX)]
    refine Ng _ _ ?_
    rw[<-Lx,ah (lk c.hkn)]
    refine aI hl2 _ _ _ ?_
    rw[<-hH2,ah (lk c.yo)]
    exact hkey
   have l29:H9 l2=some (.lst (p.1.map V.int)):=by
    have lk:∀{x:Addr}{o:HO},H x=some o->l2≠x:=fun hx z=>by rw[z,hx]at Uq;cases Uq
    rw[<-PH,ah (lk c.hla)]
    refine PF _ _ ?_
    rw[<-Ly,ah (lk c.xX)]
    refine Ng _ _ ?_
    rw[<-Lx,ah (lk c.hkn)]
    exact ar
   have kn9:H9 A.kn=some (.lst (A.ks.map V.ref++[.ref l2])):=by
    rw[<-PH,ah n2]
    refine PF _ _ ?_
    rw[<-Ly,ah n1]
    refine Ng _ _ ?_
    rw[<-Lx]
    exact ar
   have fi9:H9 A.fi=some (.lst ((kn.map fun p=>V.int (vD p.2))++[V.int (vD p.2)])):=by
    rw[<-PH,ah n4]
    refine PF _ _ ?_
    rw[<-Ly]
    exact ar
   have la9:H9 A.la=some (.lst ((kn.map fun p=>V.int (vD p.1))++[V.int (vD p.1)])):=by
    rw[<-PH]
    exact ar
   have yp:∀j,cZ (putK nu (kk p.1) (.int (kn.length:Int))) j=if j=kk p.1 then some (.int (kn.length:Int))else cZ nu j:=fun j=>ko nu (kk p.1) j _
   have c9:=c.add hm iv Uq Yc Yd kn9 fi9 la9 l29 keep
   refine⟨_,rfl,a,C,A.dx,_,_,rfl,Yc,T.cl,T.nu,Ez,_,rfl,A.nu,.int (kn.length:Int),rfl,?_,?_⟩
   ·have:=nH.t (k:=kk p.1) Yd abm
    rw[yp,if_pos rfl]at this
    exact this
   ·refine k kn.length H9 _ [p] _ c9 (by simp) ⟨fr9.kp,fun x hx=>?_,fr9.gr⟩ rfl
    have Eg:x∈a::(A.hd++(A.ks++[l2])):=hx
    rw[<-List.append_assoc,<-cons_append]at Eg
    rcases mem_append.mp Eg with h|h
    ·exact .inl h
    ·have:x=l2:=by simpa using h
     rw[this];exact .inr Uq
end
end DL.pO
namespace DL.pO
open PySem PySem.Spec PyProof.Rows L2 DL
abbrev Kb:Stmt:=inClass (top 21) 2
def PJ(C:Addr):Sp:=fun vs H Q _=>∃(a:Addr)(A:Ad)(z w:Int)(n:Nat)(kn:List RP)(ln:List Int)(B:Nat)(nu sh lo ke:List (List Key×V))(p:RP)(i j:Nat),
 vs=[.ref a,.int i,.int ((j:Int)+1)]/\iI C H a A (u9 z w) n kn ln B nu sh lo ke/\n<=7/\B+1<1000000/\kn[i]?=some p/\j+1<n/\
 ∀(i':Nat)(H':Hp)(A':Ad)(mo:List RP)(Ds Td:List (List Key×V)),iI C H' a A' (u9 z w) n (kn++mo) ln (B+2) Ds Td lo ke->(kn++mo)[i']?=some (rm p j)->iJ H H' (a::A.all) (a::A'.all)->A'.li=A.li->Q (.int i') H'
section
variable{P:Program}{w:World}{K:PySem.W.Frag}{mg:Str->Option Value}{base:Heap}
theorem sc2:az ["self","number","k","step"] ["self","number","k"] (ae Kb):=⟨rfl,rfl,rfl,by decide +kernel,rfl,by decide +kernel,by decide +kernel⟩
theorem WI{f C fN:Addr}{fd Kc:FuncData}(F:AM K "without_first" "Comb.without_first" Kb f fd)(T:Lw K mg C)(t:Tb K mg)
  (mN:Meth K C "number_of" fN)(bN:Binds K Kc ["self","row"] [])(GN:cu P w K mg base lB 3 fN Kc ["self","row"] (BR K C))
  (G_x:jD P w K mg base 2 t.bJ t.bK ["row","k"] bq):cu P w K mg base lB 4 f fd ["self","number","k"] (PJ C):=by
 refine F.ok sc2 (fun vs H Q E h=>?_) (fun cdv A outer s H vs Q E hr h=>?_)
 ·obtain⟨a,A,z,w,n,kn,ln,B,nu,sh,lo,ke,p,i,j,rfl,_⟩:=h
  rfl
 ·obtain⟨a,A,z,w,n,kn,ln,B,nu,sh,lo,ke,p,i,j,rfl,c,hn,hB,hi,hj,k⟩:=h
  have hu:=rC hr
  refine⟨_,aC (cY (i:=3) sc2.nd rfl (Or.inl rfl) (tU (aw (pv 1) (aw (pv 2) aJ))))
   (aC (uR (Cy (tZ hu (pv 3) (bA (pv 0) rfl)))
    (bU (vQ hu (bA (pv 0) rfl) (pv 3) (ja (pv 0) T.cl mN GN (hr.mono (by decide)) bN .nil oE (aw (dX (E:=fun _ _ _=>False) G_x (hr.mono (by decide)) (by rfl) t.br.m t.br.F.kp t.br.b .nil lD (aw (iK dC (bA (pv 0) rfl) (pv 1) (fun _ _=>rfl)) (aw (pv 2) aJ))) aJ)) rfl)) ly)
   (bU (lW (zq hu (bA (pv 0) rfl) (pv 3) (fun _ _=>rfl))))),?_⟩
  refine⟨_,rfl,_,rfl,(by show 2<=sizeLine;decide),fun l hl=>?_⟩
  have s1:aH H (upd H l (.tup [.int i,.int ((j:Int)+1)])):=aI hl _
  have c1:=c.same s1
  have hkey:(upd H l (.tup [.int i,.int ((j:Int)+1)])) l=some (.tup (([.inl (i:Int),.inl ((j:Int)+1)]:List Key).map kV)):=ar
  have zX:=iJ.same s1 (a::A.all)
  have WK:l∉a::A.all:=fun hx=>by
   obtain⟨o,ho⟩:=c.there hx
   rw[hl]at ho
   cases ho
  generalize hH1:upd H l (.tup [.int i,.int ((j:Int)+1)])=H1 at s1 c1 hkey zX
  refine⟨_,rfl,_,rfl,a,C,A.dx,_,_,rfl,c1.ob,T.cl,T.sh,EA,A.sh,_,rfl,nH.t c1.hsh hkey,_,rfl,?_⟩
  have ej:((j:Int)+1-1).toNat=j:=by omega
  cases hv:cZ sh ([.inl (i:Int),.inl ((j:Int)+1)]:List Key)with
  |some v=>
   refine tX ?_
   obtain⟨j',p',h1,h2,rfl⟩:=c.s1 i ((j:Int)+1) v hv
   rw[hi]at h1
   cases h1
   rw[ej]at h2
   refine⟨_,rfl,a,C,A.dx,_,_,rfl,c1.ob,T.cl,T.sh,EA,_,rfl,A.sh,.int j',rfl,?_,?_⟩
   ·have:=nH.t (k:=[.inl (i:Int),.inl ((j:Int)+1)]) c1.hsh hkey
    rw[hv]at this
    exact this
   ·exact k j' H1 A [] nu sh (by rw[append_nil];exact c1.more (by omega)) (by rw[append_nil];exact h2) zX rfl
  |none=>
   refine vq ?_
   have iv:=c.rw p (mem_of_getElem? hi)
   have WL:i<A.ks.length:=by rw[c.BD];exact(List.getElem?_eq_some_iff.mp hi).1
   have hb1:=c1.hks i A.ks[i] p (getElem?_eq_getElem WL) hi
   refine⟨_,rfl,a,A.dx,_,rfl,c1.ob,rfl,_,rfl,a,C,A.dx,_,_,rfl,c1.ob,T.cl,T.kn,yT,_,rfl,A.kn,A.ks.map V.ref,i,.ref A.ks[i],rfl,rfl,ck.of c1.hkn,jb (by rw[getElem?_map,getElem?_eq_getElem WL];rfl),_,rfl,fun _=>True,[.lst (aA p.1),.int ((j:Int)+1)],⟨_,_,rfl,⟨_,_,rfl,.inl ⟨trivial,.inl hb1⟩,bW _⟩,⟨_,_,rfl,rfl,rfl⟩⟩,?_⟩
   rw[BC iv hn hj]
   intro q ws H2 s2 hq2 Pr Na
   have ew:=gh Na
   subst ew
   have c2:=c1.same s2
   have hqF:q∉a::A.all:=fun hx=>by
    obtain⟨o,ho⟩:=c1.there hx
    rw[hq2]at ho
    cases ho
   refine⟨a,A,u9 z w,n,kn,ln,B,nu,sh,lo,ke,rm p j,.ref q,rfl,c2,hn,by omega,iv.step hj,⟨q,_,rfl,.inl ⟨hqF,.inl Pr⟩,bW _⟩,fun i' H3 A' mo Ds c3 Te tP eli=>?_⟩
   have sQ:H3 l=some (.tup (([.inl (i:Int),.inl ((j:Int)+1)]:List Key).map kV)):=tP.kp l _ WK (s2 _ _ hkey)
   have hz:=c3.z
   refine⟨_,rfl,a,C,A'.dx,_,_,rfl,c3.ob,T.cl,T.sh,EA,_,rfl,A'.sh,_,rfl,AR.t c3.hsh sQ (Nat.lt_of_le_of_lt (show sh.length<=1000001 by omega) (by decide)),?_⟩
   have wM:(kn++mo)[i]?=some p:=bV hi
   have c4:=c3.SW (i:=i) (j:=i') (k:=(j:Int)+1) wM (by rw[ej];exact Te)
   have hl4:A'.sh≠l:=fun zz=>by rw[<-zz,c3.hsh]at sQ;cases sQ
   refine⟨_,rfl,a,C,A'.dx,_,_,rfl,c4.ob,T.cl,T.sh,EA,_,rfl,A'.sh,.int i',rfl,?_,?_⟩
   ·have hk4:(upd H3 A'.sh (.dT (putK sh [.inl (i:Int),.inl ((j:Int)+1)] (.int i')))) l=some (.tup (([.inl (i:Int),.inl ((j:Int)+1)]:List Key).map kV)):=by rw[ah (Ne.symm hl4)];exact sQ
    have:=nH.t (k:=[.inl (i:Int),.inl ((j:Int)+1)]) c4.hsh hk4
    rw[ko,if_pos rfl]at this
    exact this
   ·refine k i' _ A' mo Ds _ c4 Te ?_ eli
    exact((zX.trans (iJ.same s2 _)).trans tP).trans (iJ.upd (mem_cons_of_mem _ (mem_append_left _ (by simp[Ad.hd]))) _)
end
abbrev Kd:Stmt:=inClass (top 21) 3
def PK(C:Addr):Sp:=fun vs H Q _=>∃(a:Addr)(A:Ad)(z w:Int)(n:Nat)(kn:List RP)(ln:List Int)(B:Nat)(nu sh lo ke:List (List Key×V))(p:RP)(i j:Nat),
 vs=[.ref a,.int i,.int ((j:Int)+1)]/\iI C H a A (u9 z w) n kn ln B nu sh lo ke/\n<=7/\B+1<1000000/\kn[i]?=some p/\j+1<n/\
 ∀(i':Nat)(H':Hp)(A':Ad)(mo:List RP)(Ds Tf:List (List Key×V)),iI C H' a A' (u9 z w) n (kn++mo) ln (B+2) Ds sh Tf ke->(kn++mo)[i']?=some (o4 p j)->iJ H H' (a::A.all) (a::A'.all)->A'.li=A.li->Q (.int i') H'
section
variable{P:Program}{w:World}{K:PySem.W.Frag}{mg:Str->Option Value}{base:Heap}
theorem sc3:az ["self","number","k","step"] ["self","number","k"] (ae Kd):=⟨rfl,rfl,rfl,by decide +kernel,rfl,by decide +kernel,by decide +kernel⟩
theorem WM{f C fN:Addr}{fd Kc:FuncData}(F:AM K "with_last" "Comb.with_last" Kd f fd)(T:Lw K mg C)(t:Tb K mg)
  (mN:Meth K C "number_of" fN)(bN:Binds K Kc ["self","row"] [])(GN:cu P w K mg base lB 3 fN Kc ["self","row"] (BR K C))
  (G_x:jD P w K mg base 1 t.bh t.bj ["row","k"] aQ):cu P w K mg base lB 4 f fd ["self","number","k"] (PK C):=by
 refine F.ok sc3 (fun vs H Q E h=>?_) (fun cdv A outer s H vs Q E hr h=>?_)
 ·obtain⟨a,A,z,w,n,kn,ln,B,nu,sh,lo,ke,p,i,j,rfl,_⟩:=h
  rfl
 ·obtain⟨a,A,z,w,n,kn,ln,B,nu,sh,lo,ke,p,i,j,rfl,c,hn,hB,hi,hj,k⟩:=h
  have hu:=rC hr
  refine⟨_,aC (cY (i:=3) sc3.nd rfl (Or.inl rfl) (tU (aw (pv 1) (aw (pv 2) aJ))))
   (aC (uR (Cy (tZ hu (pv 3) (bA (pv 0) rfl)))
    (bU (vQ hu (bA (pv 0) rfl) (pv 3) (ja (pv 0) T.cl mN GN (hr.mono (by decide)) bN .nil oE (aw (dX (E:=fun _ _ _=>False) G_x (hr.mono (by decide)) (by rfl) t.aV.m t.aV.F.kp t.aV.b .nil lD (aw (iK dC (bA (pv 0) rfl) (pv 1) (fun _ _=>rfl)) (aw (pv 2) aJ))) aJ)) rfl)) ly)
   (bU (lW (zq hu (bA (pv 0) rfl) (pv 3) (fun _ _=>rfl))))),?_⟩
  refine⟨_,rfl,_,rfl,(by show 2<=sizeLine;decide),fun l hl=>?_⟩
  have s1:aH H (upd H l (.tup [.int i,.int ((j:Int)+1)])):=aI hl _
  have c1:=c.same s1
  have hkey:(upd H l (.tup [.int i,.int ((j:Int)+1)])) l=some (.tup (([.inl (i:Int),.inl ((j:Int)+1)]:List Key).map kV)):=ar
  have zX:=iJ.same s1 (a::A.all)
  have WK:l∉a::A.all:=fun hx=>by
   obtain⟨o,ho⟩:=c.there hx
   rw[hl]at ho
   cases ho
  generalize hH1:upd H l (.tup [.int i,.int ((j:Int)+1)])=H1 at s1 c1 hkey zX
  refine⟨_,rfl,_,rfl,a,C,A.dx,_,_,rfl,c1.ob,T.cl,T.lo,EB,A.lo,_,rfl,nH.t c1.hlo hkey,_,rfl,?_⟩
  have ej:((j:Int)+1-1).toNat=j:=by omega
  cases hv:cZ lo ([.inl (i:Int),.inl ((j:Int)+1)]:List Key)with
  |some v=>
   refine tX ?_
   obtain⟨j',p',h1,h2,rfl⟩:=c.l1 i ((j:Int)+1) v hv
   rw[hi]at h1
   cases h1
   rw[ej]at h2
   refine⟨_,rfl,a,C,A.dx,_,_,rfl,c1.ob,T.cl,T.lo,EB,_,rfl,A.lo,.int j',rfl,?_,?_⟩
   ·have:=nH.t (k:=[.inl (i:Int),.inl ((j:Int)+1)]) c1.hlo hkey
    rw[hv]at this
    exact this
   ·exact k j' H1 A [] nu lo (by rw[append_nil];exact c1.more (by omega)) (by rw[append_nil];exact h2) zX rfl
  |none=>
   refine vq ?_
   have iv:=c.rw p (mem_of_getElem? hi)
   have WL:i<A.ks.length:=by rw[c.BD];exact(List.getElem?_eq_some_iff.mp hi).1
   have hb1:=c1.hks i A.ks[i] p (getElem?_eq_getElem WL) hi
   refine⟨_,rfl,a,A.dx,_,rfl,c1.ob,rfl,_,rfl,a,C,A.dx,_,_,rfl,c1.ob,T.cl,T.kn,yT,_,rfl,A.kn,A.ks.map V.ref,i,.ref A.ks[i],rfl,rfl,ck.of c1.hkn,jb (by rw[getElem?_map,getElem?_eq_getElem WL];rfl),_,rfl,fun _=>True,[.lst (aA p.1),.int ((j:Int)+1)],⟨_,_,rfl,⟨_,_,rfl,.inl ⟨trivial,.inl hb1⟩,bW _⟩,⟨_,_,rfl,rfl,rfl⟩⟩,?_⟩
   rw[uu (by rw[iv.lr];exact hn) (by rw[iv.lr];exact hj)]
   intro q ws H2 s2 hq2 Pr Na
   have ew:=gh Na
   subst ew
   have c2:=c1.same s2
   have hqF:q∉a::A.all:=fun hx=>by
    obtain⟨o,ho⟩:=c1.there hx
    rw[hq2]at ho
    cases ho
   refine⟨a,A,u9 z w,n,kn,ln,B,nu,sh,lo,ke,o4 p j,.ref q,rfl,c2,hn,by omega,(iv.symm.step hj).symm,⟨q,_,rfl,.inl ⟨hqF,.inl Pr⟩,bW _⟩,fun i' H3 A' mo Ds c3 Te tP eli=>?_⟩
   have sQ:H3 l=some (.tup (([.inl (i:Int),.inl ((j:Int)+1)]:List Key).map kV)):=tP.kp l _ WK (s2 _ _ hkey)
   have hz:=c3.z
   refine⟨_,rfl,a,C,A'.dx,_,_,rfl,c3.ob,T.cl,T.lo,EB,_,rfl,A'.lo,_,rfl,AR.t c3.hlo sQ (Nat.lt_of_le_of_lt (show lo.length<=1000001 by omega) (by decide)),?_⟩
   have wM:(kn++mo)[i]?=some p:=bV hi
   have c4:=c3.SX (i:=i) (j:=i') (k:=(j:Int)+1) wM (by rw[ej];exact Te)
   have hl4:A'.lo≠l:=fun zz=>by rw[<-zz,c3.hlo]at sQ;cases sQ
   refine⟨_,rfl,a,C,A'.dx,_,_,rfl,c4.ob,T.cl,T.lo,EB,_,rfl,A'.lo,.int i',rfl,?_,?_⟩
   ·have hk4:(upd H3 A'.lo (.dT (putK lo [.inl (i:Int),.inl ((j:Int)+1)] (.int i')))) l=some (.tup (([.inl (i:Int),.inl ((j:Int)+1)]:List Key).map kV)):=by rw[ah (Ne.symm hl4)];exact sQ
    have:=nH.t (k:=[.inl (i:Int),.inl ((j:Int)+1)]) c4.hlo hk4
    rw[ko,if_pos rfl]at this
    exact this
   ·refine k i' _ A' mo Ds _ c4 Te ?_ eli
    exact((zX.trans (iJ.same s2 _)).trans tP).trans (iJ.upd (mem_cons_of_mem _ (mem_append_left _ (by simp[Ad.hd]))) _)
end
end DL.pO
namespace DL.pO
open PySem PySem.Spec PyProof.Rows L2 DL
abbrev Ke:Stmt:=inClass (top 21) 4
def PL(C:Addr):Sp:=fun vs H Q _=>∃(a:Addr)(A:Ad)(z w:Int)(n:Nat)(kn:List RP)(ln:List Int)(B:Nat)(nu sh lo ke:List (List Key×V))(p q:RP)(i j:Nat),
 vs=[.ref a,.int i,.int j]/\iI C H a A (u9 z w) n kn ln B nu sh lo ke/\n<=7/\B+300<1000000/\kn[i]?=some p/\kn[j]?=some q/\
 ∀(t:Addr)(i' j':Nat)(H':Hp)(A':Ad)(mo:List RP)(Ds Td Tf:List (List Key×V)),iI C H' a A' (u9 z w) n (kn++mo) ln (B+200) Ds Td Tf ke->(kn++mo)[i']?=some (cF 50 p q).1->(kn++mo)[j']?=some (cF 50 p q).2->
  H t=none->H' t=some (.tup [.int i',.int j'])->iJ H H' (a::A.all) (a::A'.all)->A'.li=A.li->Q (.ref t) H'
section
variable{P:Program}{w:World}{K:PySem.W.Frag}{mg:Str->Option Value}{base:Heap}
theorem Uv:az ["self","one","other","free","k"] ["self","one","other"] (ae Ke):=⟨rfl,rfl,rfl,by decide +kernel,rfl,by decide +kernel,by decide +kernel⟩
theorem WN{f C fS fL:Addr}{fd PN fdL:FuncData}(F:AM K "slide" "Comb.slide" Ke f fd)(T:Lw K mg C)
  (mS:Meth K C "without_first" fS)(bS:Binds K PN ["self","number","k"] [])(GS:cu P w K mg base lB 4 fS PN ["self","number","k"] (PJ C))
  (mL:Meth K C "with_last" fL)(bL:Binds K fdL ["self","number","k"] [])(GL:cu P w K mg base lB 4 fL fdL ["self","number","k"] (PK C)):cu P w K mg base lB 5 f fd ["self","one","other"] (PL C):=by
 refine F.ok Uv (fun vs H Q E h=>?_) (fun cdv A outer s H vs Q E hr h=>?_)
 ·obtain⟨a,A,z,w,n,kn,ln,B,nu,sh,lo,ke,p,q,i,j,rfl,_⟩:=h
  rfl
 ·obtain⟨a,A,z,w,n,kn,ln,B,nu,sh,lo,ke,p,q,i,j,rfl,c,hn,hB,hi,hj,k⟩:=h
  have hu:=rC hr
  refine⟨_,aC (cY (i:=3) Uv.nd rfl (Or.inl rfl) (qF HP (iK dC (bA (pv 0) rfl) (pv 2) (fun _ _=>rfl)) (DZ HQ (iK dC (bA (pv 0) rfl) (pv 1) (fun _ _=>rfl)))))
   (aC (rz PassesOwn.never (jV kj (pv 3) gX (aK _))
    (aC (cY (i:=4) Uv.nd rfl (Or.inl rfl) (zp PySem.F.plainAttrs_int PySem.F.slot_int_bit_length PySem.F.type_int_bit_length M0 (pv 3)))
    (aC (cY (i:=1) Uv.nd rfl (Or.inl rfl) (ja (pv 0) T.cl mL GL (hr.mono (by decide)) bL .nil oE (aw (pv 1) (aw (pv 4) aJ))))
    (aC (cY (i:=2) Uv.nd rfl (Or.inl rfl) (ja (pv 0) T.cl mS GS (hr.mono (by decide)) bS .nil oE (aw (pv 2) (aw (pv 4) aJ))))
    (bU (cY (i:=3) Uv.nd rfl (Or.inl rfl) (qF HP (iK dC (bA (pv 0) rfl) (pv 2) (fun _ _=>rfl)) (DZ HQ (iK dC (bA (pv 0) rfl) (pv 1) (fun _ _=>rfl))))))))))
   (bU (lW (tU (aw (pv 1) (aw (pv 2) aJ)))))),?_⟩
  have Yj:∀{H2:Hp}{A2:Ad}{PD:List RP}{B2:Nat}{wq xJ lo2:List (List Key×V)}{i2:Nat}{p2:RP},iI C H2 a A2 (u9 z w) n PD ln B2 wq xJ lo2 ke->PD[i2]?=some p2->ju (PD.map fun p=>V.int (vD p.2)) (i2:Int)=some (.int (vD p2.2))/\ju (PD.map fun p=>V.int (vD p.1)) (i2:Int)=some (.int (vD p2.1)):=fun c2 h2=>
   ⟨jb (by rw[getElem?_map,h2];rfl),jb (by rw[getElem?_map,h2];rfl)⟩
  have l7:∀{x:RP},Iv n x.1 x.2->x.1.length<=7/\x.2.length<=7:=fun h=>⟨by rw[h.lr];exact hn,by rw[h.ls];exact hn⟩
  have ivp:=c.rw p (mem_of_getElem? hi)
  have ivq:=c.rw q (mem_of_getElem? hj)
  refine⟨_,rfl,a,C,A.dx,_,_,rfl,c.ob,T.cl,T.fi,JE,_,rfl,A.fi,_,j,_,rfl,rfl,ck.of c.xX,(Yj c hj).1,_,rfl,a,C,A.dx,_,_,rfl,c.ob,T.cl,T.la,JF,_,rfl,A.la,_,i,_,rfl,rfl,ck.of c.hla,(Yj c hi).2,_,rfl,_,_,rfl,rfl,?_⟩
  dsimp only
  rw[EC (l7 ivp).1 (l7 ivq).2]
  refine⟨fun m σ H2=>∃(A2:Ad)(mo:List RP)(wq xJ lo2:List (List Key×V))(i2 j2:Nat)(p2 q2:RP)(s:Nat)(kv:Option V),σ=[some (.ref a),some (.int i2),some (.int j2),some (.int (Dl (kZ p2 q2))),kv]/\iI C H2 a A2 (u9 z w) n (kn++mo) ln (B+4*s) wq xJ lo2 ke/\
    (kn++mo)[i2]?=some p2/\(kn++mo)[j2]?=some q2/\cF (50-s) p2 q2=cF 50 p q/\s<=gm p2.1/\m=50-s/\iJ H H2 (a::A.all) (a::A2.all)/\A2.li=A.li,⟨50,A,[],nu,sh,lo,i,j,p,q,0,none,rfl,by rw[append_nil];exact c,by rw[append_nil];exact hi,by rw[append_nil];exact hj,rfl,zero_le _,rfl,iJ.refl _ _,rfl⟩,?_⟩
  rintro m σ H2 ⟨A2,mo,wq,xJ,lo2,i2,j2,p2,q2,s,kv,rfl,c2,hi2,Kf,hs,hsc,hm,Dt,Uw⟩
  have Hq:=c2.rw p2 (mem_of_getElem? hi2)
  have Hr:=c2.rw q2 (mem_of_getElem? Kf)
  have af9:=uv hn Hq
  refine⟨_,rfl,_,_,rfl,rfl,_,rfl,?_⟩
  dsimp only
  rw[JI (l7 Hq).1 (l7 Hr).2]
  cases hl:(kZ p2 q2).getLast? with
  |none=>
   refine tX ?_
   rw[m8 _ hl]at hs
   refine⟨_,rfl,_,rfl,(by show 2<=sizeLine;decide),fun t ht=>?_⟩
   have st:=aI ht (.tup [V.int i2,V.int j2])
   refine k t i2 j2 _ A2 mo wq xJ lo2 ((c2.same st).more (by omega)) (by rw[<-hs];exact hi2) (by rw[<-hs];exact Kf) (Dt.gr t ht) ar (Dt.trans (iJ.same st _)) Uw
  |some kk'=>
   refine vq ?_
   obtain⟨j',rfl,Dh,hlt,_⟩:=nS Hq Hr (mem_of_getLast? hl)
   have hup:=JK Hq Dh hlt
   have ivu:=dS Hq Dh
   have aga:=uv hn ivu
   have hsl:cF (50-(s+1)) (o4 p2 j') (rm q2 j')=cF 50 p q:=by
    rw[<-hs,show 50-s=(50-(s+1))+1 by omega,m7 _ hl,show((j':Int)+1-1).toNat=j' by omega]
   refine⟨fun σ' H'=>∃m'<m,∃(A2:Ad)(mo:List RP)(wq xJ lo2:List (List Key×V))(i2 j2:Nat)(p2 q2:RP)(s:Nat)(kv:Option V),σ'=[some (.ref a),some (.int i2),some (.int j2),some (.int (Dl (kZ p2 q2))),kv]/\iI C H' a A2 (u9 z w) n (kn++mo) ln (B+4*s) wq xJ lo2 ke/\
    (kn++mo)[i2]?=some p2/\(kn++mo)[j2]?=some q2/\cF (50-s) p2 q2=cF 50 p q/\s<=gm p2.1/\m'=50-s/\iJ H H' (a::A.all) (a::A2.all)/\A2.li=A.li,fun σ' H' h=>h,?_⟩
   refine⟨_,rfl,(by first|exact rfl|exact trivial),_,rfl,rfl,?_⟩
   dsimp only
   rw[JJ (l7 Hq).1 (l7 Hr).2 hl]
   refine⟨_,rfl,a,A2.dx,_,rfl,c2.ob,rfl,_,rfl,_,rfl,a,A2,z,w,n,kn++mo,ln,B+4*s,wq,xJ,lo2,ke,p2,i2,j',rfl,c2,hn,by omega,hi2,Dh,fun i3 H3 A3 Yk nu3 Ym c3 Te tP WO=>?_⟩
   have hj3:(kn++mo++Yk)[j2]?=some q2:=bV Kf
   refine⟨_,rfl,a,A3.dx,_,rfl,c3.ob,rfl,_,rfl,_,rfl,a,A3,z,w,n,kn++mo++Yk,ln,B+4*s+2,nu3,xJ,Ym,ke,q2,j2,j',rfl,c3,hn,by omega,hj3,Dh,fun j4 H4 A4 E3 WQ WR c4 WS Tg el4=>?_⟩
   have Th:(kn++mo++Yk++E3)[i3]?=some (o4 p2 j'):=bV Te
   refine⟨_,rfl,a,C,A4.dx,_,_,rfl,c4.ob,T.cl,T.fi,JE,_,rfl,A4.fi,_,j4,_,rfl,rfl,ck.of c4.xX,(Yj c4 WS).1,_,rfl,a,C,A4.dx,_,_,rfl,c4.ob,T.cl,T.la,JF,_,rfl,A4.la,_,i3,_,rfl,rfl,ck.of c4.hla,(Yj c4 Th).2,_,rfl,_,_,rfl,rfl,?_⟩
   have iva:=dU Hr Dh
   dsimp only
   rw[EC (l7 ivu).1 (l7 iva).2]
   rw[List.append_assoc,List.append_assoc]at c4 Th WS
   refine⟨50-(s+1),by omega,A4,mo++(Yk++E3),WQ,WR,Ym,i3,j4,o4 p2 j',rm q2 j',s+1,_,rfl,?_,Th,WS,hsl,by omega,rfl,(Dt.trans tP).trans Tg,el4.trans (WO.trans Uw)⟩
   rw[show B+4*(s+1)=B+4*s+2+2 by omega]
   exact c4
end
end DL.pO
namespace DL.pO
open PySem PySem.Spec PyProof.Rows L2 DL
abbrev Kg:Stmt:=inClass (top 21) 5
def PQ(C:Addr):Sp:=fun vs H Q _=>∃(a:Addr)(A:Ad)(z w:Int)(n:Nat)(kn:List RP)(ln:List Int)(B:Nat)(nu sh lo ke:List (List Key×V))(p q:RP)(i j:Nat),
 vs=[.ref a,.int i,.int j]/\iI C H a A (u9 z w) n kn ln B nu sh lo ke/\n<=7/\B+400<1000000/\kn[i]?=some p/\kn[j]?=some q/\
 ∀(t:Addr)(i' j':Nat)(H':Hp)(A':Ad)(mo:List RP)(Ds Td Tf ke':List (List Key×V)),iI C H' a A' (u9 z w) n (kn++mo) ln (B+201) Ds Td Tf ke'->(kn++mo)[i']?=some (cF 50 p q).1->(kn++mo)[j']?=some (cF 50 p q).2->
  H' t=some (.tup [.int i',.int j'])->iJ H H' (a::A.all) (a::A'.all)->A'.li=A.li->Q (.ref t) H'
section
variable{P:Program}{w:World}{K:PySem.W.Frag}{mg:Str->Option Value}{base:Heap}
theorem Yn:az ["self","one","other","pair","found"] ["self","one","other"] (ae Kg):=⟨rfl,rfl,rfl,by decide +kernel,rfl,by decide +kernel,by decide +kernel⟩
theorem WT{f C fS:Addr}{fd PN:FuncData}(F:AM K "slide_kept" "Comb.slide_kept" Kg f fd)(T:Lw K mg C)(t:Tb K mg)
  (mS:Meth K C "slide" fS)(bS:Binds K PN ["self","one","other"] [])(GS:cu P w K mg base lB 5 fS PN ["self","one","other"] (PL C)):cu P w K mg base lB 6 f fd ["self","one","other"] (PQ C):=by
 refine F.ok Yn (fun vs H Q E h=>?_) (fun cdv A outer s H vs Q E hr h=>?_)
 ·obtain⟨a,A,z,w,n,kn,ln,B,nu,sh,lo,ke,p,q,i,j,rfl,_⟩:=h
  rfl
 ·obtain⟨a,A,z,w,n,kn,ln,B,nu,sh,lo,ke,p,q,i,j,rfl,c,hn,hB,hi,hj,k⟩:=h
  have hu:=rC hr
  refine⟨_,aC (cY (i:=3) Yn.nd rfl (Or.inl rfl) (tU (aw (pv 1) (aw (pv 2) aJ))))
   (aC (cY (i:=4) Yn.nd rfl (Or.inl rfl) (Ih hu (bA (pv 0) rfl) (pv 3) ⟨rfl,rfl,rfl,rfl⟩))
   (aC (uR (jV QL (pv 4) HC (aK _))
    (aC (cY (i:=4) Yn.nd rfl (Or.inl rfl) (ja (pv 0) T.cl mS GS (hr.mono (by decide)) bS .nil oE (aw (pv 1) (aw (pv 2) aJ))))
    (bU (uR (jV qG (jt GJ (by rfl) T.Yg dQ (aw (bA (pv 0) rfl) aJ)) (LL (by rfl) t.sP (v:=.int 200000) ⟨_,rfl⟩) (aK _))
     (bU (vQ hu (bA (pv 0) rfl) (pv 3) (pv 4) rfl)) ly))) ly)
   (bU (lW (pv 4))))),?_⟩
  refine⟨_,rfl,_,rfl,(by show 2<=sizeLine;decide),fun l hl=>?_⟩
  have s1:aH H (upd H l (.tup [.int i,.int j])):=aI hl _
  have c1:=c.same s1
  have hkey:(upd H l (.tup [.int i,.int j])) l=some (.tup (([.inl (i:Int),.inl (j:Int)]:List Key).map kV)):=ar
  have zX:=iJ.same s1 (a::A.all)
  have WK:l∉a::A.all:=fun hx=>by
   obtain⟨o,ho⟩:=c.there hx
   rw[hl]at ho
   cases ho
  generalize hH1:upd H l (.tup [.int i,.int j])=H1 at s1 c1 hkey zX
  refine⟨_,rfl,a,C,A.dx,_,_,rfl,c1.ob,T.cl,T.ke,JG,A.ke,rfl,.inr ⟨_,.inl c1.hke⟩,_,rfl,_,nH.t c1.hke hkey,?_⟩
  cases hv:cZ ke ([.inl (i:Int),.inl (j:Int)]:List Key)with
  |some v=>
   obtain⟨t',i',j',p',q',h1,h2,rfl,h4,h5,h6⟩:=c1.k1 i j v hv
   rw[hi]at h1
   rw[hj]at h2
   cases h1
   cases h2
   refine⟨_,rfl,rfl,_,rfl,?_⟩
   rw[decide_eq_false (show¬((some (V.ref t')).getD .non=.non)from fun zz=>nomatch zz)]
   refine tX ?_
   exact⟨_,rfl,k t' i' j' H1 A [] nu sh lo ke (by rw[append_nil];exact c1.more (by omega)) (by rw[append_nil];exact h5) (by rw[append_nil];exact h6) h4 zX rfl⟩
  |none=>
   refine⟨_,rfl,rfl,_,rfl,?_⟩
   rw[decide_eq_true (show((none:Option V).getD .non=.non)from rfl)]
   refine vq ?_
   refine⟨_,rfl,a,A.dx,_,rfl,c1.ob,rfl,_,rfl,_,rfl,a,A,z,w,n,kn,ln,B,nu,sh,lo,ke,p,q,i,j,rfl,c1,hn,by omega,hi,hj,fun t' i' j' H2 A2 mo wq xJ lo2 c2 hi2 Kf htn Yo Dt Uw=>?_⟩
   have hz:=c2.z
   have WU:=zX.trans Dt
   refine⟨_,rfl,a,C,A2.dx,_,_,rfl,c2.ob,T.cl,T.ke,JG,A2.ke,_,rfl,c2.hke,_,_,rfl,rfl,_,rfl,?_⟩
   generalize decide ((ke.length:Int)<200000)=bb
   cases bb with
   |true=>
    refine vq ?_
    have WV:H2 l=some (.tup (([.inl (i:Int),.inl (j:Int)]:List Key).map kV)):=Dt.kp l _ WK hkey
    refine⟨_,rfl,_,rfl,a,C,A2.dx,_,_,rfl,c2.ob,T.cl,T.ke,JG,_,rfl,A2.ke,_,rfl,AR.t c2.hke WV (Nat.lt_of_le_of_lt (show ke.length<=1000001 by omega) (by decide)),?_⟩
    have c3:=c2.SY (bV hi) (bV hj) Yo hi2 Kf
    refine⟨_,rfl,k t' i' j' _ A2 mo wq xJ lo2 _ c3 hi2 Kf ?_ (WU.trans (iJ.upd (mem_cons_of_mem _ (mem_append_left _ (by simp[Ad.hd]))) _)) Uw⟩
    rw[ah (bO Yo c2.hke (by intro zz;cases zz))]
    exact Yo
   |false=>
    refine tX ?_
    exact⟨_,rfl,k t' i' j' H2 A2 mo wq xJ lo2 ke (c2.more (by omega)) hi2 Kf Yo WU Uw⟩
end
end DL.pO
namespace DL.pO
open PySem PySem.Spec PyProof.Rows L2 DL
abbrev Kh:Stmt:=inClass (top 21) 6
def PR(K:PySem.W.Frag)(C:Addr):Sp:=fun vs H Q _=>∃(a:Addr)(A:Ad)(zn:Nat)(w:Int)(n:Nat)(kn:List RP)(ls:List Nat)(R:List RP)(B:Nat)(nu sh lo ke:List (List Key×V))(p:RP)(v:V),
 vs=[.ref a,v]/\iI C H a A (u9 zn w) n kn (nI ls) B nu sh lo ke/\cM kn ls R/\kn[zn]?=some (upTo n,upTo n)/\n<=7/\B+402*(R.length+1)<900000/\R.length<=1000/\Iv n p.1 p.2/\Is K (fun x=>x∉a::A.all) H (.lst (aA p.1)) v/\
 ∀(H':Hp)(A':Ad)(mo:List RP)(ls':List Nat)(Ds Td Tf ke':List (List Key×V)),iI C H' a A' (u9 zn w) n (kn++mo) (nI ls') (B+402*(R.length+1)) Ds Td Tf ke'->cM (kn++mo) ls' (eO n R p)->iJ H H' (a::A.all) (a::A'.all)->Q .non H'
section
variable{P:Program}{w:World}{K:PySem.W.Frag}{mg:Str->Option Value}{base:Heap}
theorem WW:az ["self","row","line","place","pair"] ["self","row"] (ae Kh):=⟨rfl,rfl,rfl,by decide +kernel,rfl,by decide +kernel,by decide +kernel⟩
theorem WX{f C fN fS:Addr}{fd Kc PN:FuncData}(F:AM K "put" "Comb.put" Kh f fd)(T:Lw K mg C)
  (mN:Meth K C "number_of" fN)(bN:Binds K Kc ["self","row"] [])(GN:cu P w K mg base lB 3 fN Kc ["self","row"] (BR K C))
  (mS:Meth K C "slide_kept" fS)(bS:Binds K PN ["self","one","other"] [])(GS:cu P w K mg base lB 6 fS PN ["self","one","other"] (PQ C)):cu P w K mg base lB 7 f fd ["self","row"] (PR K C):=by
 refine F.ok WW (fun vs H Q E h=>?_) (fun cdv A outer s H vs Q E hr h=>?_)
 ·obtain⟨a,A,zn,w,n,kn,ls,R,B,nu,sh,lo,ke,p,v,rfl,_⟩:=h
  rfl
 ·obtain⟨a,A,zn,w,n,kn,ls,R,B,nu,sh,lo,ke,p,v,rfl,c,hR,hzn,hn,hB,hRl,ivp,isr,k⟩:=h
  have hu:=rC hr
  refine⟨_,aC (cY (i:=2) WW.nd rfl (Or.inl rfl) (bA (pv 0) rfl))
   (aC (gf (rB plainAttrs_list PySem.F.slot_list_append PySem.F.type_list_append fy (pv 2) (aw (ja (pv 0) T.cl mN GN (hr.mono (by decide)) bN .nil oE (aw (pv 1) aJ)) aJ)) rfl)
   (aC (cY (i:=3) WW.nd rfl (Or.inl rfl) (qF bz (jt nE (by rfl) T.Yg dQ (aw (pv 2) aJ)) gX))
   (aC (rz PassesOwn.never (jV kj (pv 3) gX (aK _))
    (aC (cY (i:=4) WW.nd rfl (Or.inl rfl) (ja (pv 0) T.cl mS GS (hr.mono (by decide)) bS .nil oE (aw (iK dC (pv 2) (qF bz (pv 3) gX) (fun _ _=>rfl)) (aw (iK dC (pv 2) (pv 3) (fun _ _=>rfl)) aJ))))
    (aC (uR (jV HS (iK zm (pv 4) gX (fun _ _=>rfl)) (iK dC (pv 2) (qF bz (pv 3) gX) (fun _ _=>rfl)) (aK _)) (bU HF) ly)
    (aC (CA (iK zm (pv 4) gX (fun _ _=>rfl)) (Cz (pv 2) (qF bz (pv 3) gX) set_list (by intro _;rfl)) rfl rfl rfl)
    (aC (CA (iK zm (pv 4) gX (fun _ _=>rfl)) (Cz (pv 2) (pv 3) set_list (by intro _;rfl)) rfl rfl rfl)
    (bU (CB (i:=3) WW.nd rfl (Or.inl rfl) gX QB)))))))
   (bU (uR (jV HS (iK dC (pv 2) (DZ jC gX) (fun _ _=>rfl)) (bA (pv 0) rfl) (aK _))
    (bU (gf (zp plainAttrs_list slot_list_pop type_list_pop Ia (pv 2)) rfl)) ly))))),?_⟩
  refine⟨_,rfl,a,C,A.dx,_,_,rfl,c.ob,T.cl,T.li,BE,?_⟩
  refine⟨_,rfl,.inl ⟨rfl,_,ck.of c.hli⟩,_,rfl,a,A.dx,_,rfl,c.ob,rfl,_,rfl,a,A,u9 zn w,n,kn,nI ls,B,nu,sh,lo,ke,p,v,rfl,c,hn,by omega,ivp,isr,fun i1 H1 A1 WY WZ c1 hi1 zX Ux=>?_⟩
  have hz:=c1.z
  have SR:=hR.len
  have big:∀{x:Nat},x<=1000001->x<sizeLine:=fun h=>Nat.lt_of_le_of_lt h (by decide)
  refine⟨A.li,(nI ls).map V.int,.int i1,rfl,rfl,by rw[<-Ux];exact c1.hli,by rw[length_map,mh];exact big (by omega),?_⟩
  have hR1:cM (kn++WY) (ls++[i1]) (R++[p]):=hR.pre.app hi1
  have c2:=c1.BG hR1.li
  rw[S3,Ux]at c2
  have Dt:iJ H (upd H1 A.li (.lst ((nI ls).map V.int++[.int i1]))) (a::A.all) (a::A1.all):=zX.trans (iJ.upd (by rw[<-Ux];exact mem_cons_of_mem _ (mem_append_left _ (by simp[Ad.hd]))) _)
  generalize upd H1 A.li (.lst ((nI ls).map V.int++[.int i1]))=H2 at c2 Dt
  have abx:H2 A.li=some (.lst ((nI (ls++[i1])).map V.int)):=by rw[<-Ux];exact c2.hli
  refine⟨_,rfl,A.li,_,rfl,.inl (ck.of abx),_,_,rfl,rfl,?_⟩
  have epl:((((nI (ls++[i1])).map V.int).length:Nat):Int)-1=(R.length:Nat):=by
   rw[length_map,mh,length_append,length_singleton]
   omega
  dsimp only
  rw[epl]
  refine⟨fun m σ H2=>∃(A2:Ad)(mo:List RP)(wq xJ lo2 Lz:List (List Key×V))(W0:List Nat)(t:Nat)(cr:RP)(dn:List RP)(pr:Option V),σ=[some (.ref a),some v,some (.ref A.li),some (.int t),pr]/\iI C H2 a A2 (u9 zn w) n (kn++mo) (nI W0) (B+1+201*(R.length-t)) wq xJ lo2 Lz/\
    cM (kn++mo) W0 (R.take t++cr::dn)/\t<=R.length/\(vE (R.take t).reverse cr).reverse++dn=sj R p/\m=t/\iJ H H2 (a::A.all) (a::A2.all)/\A2.li=A.li,
   ⟨R.length,A1,WY,WZ,sh,lo,ke,ls++[i1],R.length,p,[],none,rfl,by rw[sub_self];exact c2,by rw[take_length];exact hR1,Nat.le_refl _,by rw[take_length,append_nil];rfl,rfl,Dt,Ux⟩,?_⟩
  rintro m σ H3 ⟨A3,mo,nu3,sh3,Ym,ke3,xY,t,cr,dn,pr,rfl,c3,hL,htR,hT,rfl,tP,WO⟩
  have hli:H3 A.li=some (.lst ((nI xY).map V.int)):=by rw[<-WO];exact c3.hli
  refine⟨_,rfl,_,_,rfl,rfl,_,rfl,?_⟩
  cases m with
  |zero=>
   rw[decide_eq_false (by omega)]
   refine tX ?_
   have PU:cM (kn++mo) xY (sj R p):=by
    rw[<-hT]
    exact hL
   obtain⟨m1,r1,hm1,hm2,Uy⟩:=PU.last (by rw[we];omega)
   refine⟨_,rfl,_,rfl,A.li,_,-1,_,rfl,rfl,ck.of hli,wF (wg hm1),_,rfl,a,C,A3.dx,_,_,rfl,c3.ob,T.cl,T.no,Pn,rfl,_,rfl,?_⟩
   have hz2:(kn++mo)[zn]?=some (upTo n,upTo n):=bV hzn
   by_cases hq:r1=(upTo n,upTo n)
   ·rw[decide_eq_true (show V.int (m1:Int)=V.int (zn:Int)from congrArg V.int ((c3.inj Uy hz2).mpr hq))]
    refine vq ?_
    refine⟨_,rfl,.inl ⟨rfl,_,ck.of hli⟩,A.li,_,_,rfl,rfl,hli,EE (wg hm1),?_⟩
    rw[EF,<-WO]
    have hdr:cM (kn++mo) xY.dropLast (eO n R p):=by
     unfold eO
     rw[if_pos (by rw[hm2,hq])]
     exact PU.drop
    exact k _ A3 mo xY.dropLast _ _ _ _ ((c3.BG hdr.li).more (by omega)) hdr (tP.trans (iJ.upd (mem_cons_of_mem _ (mem_append_left _ (by simp[Ad.hd]))) _))
   ·rw[decide_eq_false (show¬V.int (m1:Int)=V.int (zn:Int)from fun e=>hq ((c3.inj Uy hz2).mp (by injection e)))]
    refine tX ?_
    have hdr:cM (kn++mo) xY (eO n R p):=by
     unfold eO
     rw[if_neg (by rw[hm2];exact fun e=>hq (Option.some.inj e))]
     exact PU
    exact k _ A3 mo xY _ _ _ _ (c3.more (by omega)) hdr tP
  |succ t=>
   rw[decide_eq_true (by omega)]
   refine vq ?_
   have hrt:R[t]?=some (R[t]'(by omega)):=getElem?_eq_getElem (by omega)
   generalize R[t]'(by omega)=r at hrt
   have etk:R.take (t+1)=R.take t++[r]:=by rw[take_succ,hrt];rfl
   have ltk:(R.take t).length=t:=by rw[length_take];omega
   have g1:(R.take (t+1)++cr::dn)[t]?=some r:=by
    rw[etk,List.append_assoc,getElem?_append_right (by omega),ltk,sub_self]
    rfl
   have g2:(R.take (t+1)++cr::dn)[t+1]?=some cr:=by
    rw[getElem?_append_right (by rw[length_take];omega),show t+1-(R.take (t+1)).length=0 by rw[length_take];omega]
    rfl
   obtain⟨ma,la,ka⟩:=hL.at g1
   obtain⟨mb,lb,kb⟩:=hL.at g2
   refine⟨fun σ' H'=>∃m'<t+1,∃(A2:Ad)(mo:List RP)(wq xJ lo2 Lz:List (List Key×V))(W0:List Nat)(t:Nat)(cr:RP)(dn:List RP)(pr:Option V),σ'=[some (.ref a),some v,some (.ref A.li),some (.int t),pr]/\iI C H' a A2 (u9 zn w) n (kn++mo) (nI W0) (B+1+201*(R.length-t)) wq xJ lo2 Lz/\
    cM (kn++mo) W0 (R.take t++cr::dn)/\t<=R.length/\(vE (R.take t).reverse cr).reverse++dn=sj R p/\m'=t/\iJ H H' (a::A.all) (a::A2.all)/\A2.li=A.li,fun σ' H' h=>h,?_⟩
   have Yp:((t+1:Nat):Int)-1=(t:Nat):=by omega
   refine⟨_,rfl,a,A3.dx,_,rfl,c3.ob,rfl,_,rfl,_,rfl,_,_,rfl,rfl,A.li,_,((t+1:Nat):Int)-1,.int ma,rfl,rfl,ck.of hli,by rw[Yp];exact jb (uw la),_,rfl,_,rfl,A.li,_,((t+1:Nat):Int),.int mb,rfl,rfl,ck.of hli,jb (uw lb),
    a,A3,zn,w,n,kn++mo,nI xY,_,nu3,sh3,Ym,ke3,r,cr,ma,mb,rfl,c3,hn,by omega,ka,kb,fun tt i4 j4 H4 A4 E3 WQ WR lo4 ke4 c4 Th WS Yq Tg el4=>?_⟩
   have BU:=el4.trans WO
   have Nh:H4 A.li=some (.lst ((nI xY).map V.int)):=by rw[<-BU];exact c4.hli
   refine⟨_,rfl,tt,_,0,_,rfl,rfl,AF.of Yq,rfl,_,rfl,_,rfl,_,_,rfl,rfl,A.li,_,((t+1:Nat):Int)-1,.int ma,rfl,rfl,ck.of Nh,by rw[Yp];exact jb (uw la),rfl,_,rfl,?_⟩
   have kaX:(kn++mo++E3)[ma]?=some r:=bV ka
   have hsl:=JM (c:=cr) hrt
   by_cases Yr:(cF 50 r cr).1=r
   ·rw[decide_eq_true (show V.int (i4:Int)=V.int (ma:Int)from congrArg V.int ((c4.inj Th kaX).mpr Yr))]
    refine vq ?_
    have PU:cM (kn++mo++E3) xY (sj R p):=by
     rw[<-hT,hsl,if_pos Yr,reverse_cons,reverse_reverse,show R.take (t+1)++[cr]++dn=R.take (t+1)++cr::dn by rw[List.append_assoc];rfl]
     exact hL.pre
    have hli:=Nh
    obtain⟨m1,r1,hm1,hm2,Uy⟩:=PU.last (by rw[we];omega)
    rw[List.append_assoc]at c4 Uy PU
    refine⟨_,rfl,_,rfl,A.li,_,-1,_,rfl,rfl,ck.of hli,wF (wg hm1),_,rfl,a,C,A4.dx,_,_,rfl,c4.ob,T.cl,T.no,Pn,rfl,_,rfl,?_⟩
    have hz2:(kn++(mo++E3))[zn]?=some (upTo n,upTo n):=bV hzn
    by_cases hq:r1=(upTo n,upTo n)
    ·rw[decide_eq_true (show V.int (m1:Int)=V.int (zn:Int)from congrArg V.int ((c4.inj Uy hz2).mpr hq))]
     refine vq ?_
     refine⟨_,rfl,.inl ⟨rfl,_,ck.of hli⟩,A.li,_,_,rfl,rfl,hli,EE (wg hm1),?_⟩
     rw[EF,<-BU]
     have hdr:cM (kn++(mo++E3)) xY.dropLast (eO n R p):=by
      unfold eO
      rw[if_pos (by rw[hm2,hq])]
      exact PU.drop
     exact k _ A4 (mo++E3) xY.dropLast _ _ _ _ ((c4.BG hdr.li).more (by omega)) hdr ((tP.trans Tg).trans (iJ.upd (mem_cons_of_mem _ (mem_append_left _ (by simp[Ad.hd]))) _))
    ·rw[decide_eq_false (show¬V.int (m1:Int)=V.int (zn:Int)from fun e=>hq ((c4.inj Uy hz2).mp (by injection e)))]
     refine tX ?_
     have hdr:cM (kn++(mo++E3)) xY (eO n R p):=by
      unfold eO
      rw[if_neg (by rw[hm2];exact fun e=>hq (Option.some.inj e))]
      exact PU
     exact k _ A4 (mo++E3) xY _ _ _ _ (c4.more (by omega)) hdr (tP.trans Tg)
   ·rw[decide_eq_false (show¬V.int (i4:Int)=V.int (ma:Int)from fun e=>Yr ((c4.inj Th kaX).mp (by injection e)))]
    refine tX ?_
    have lt1:t+1<xY.length:=(List.getElem?_eq_some_iff.mp lb).1
    have ixa:rq ((nI xY).map V.int).length (((t+1:Nat):Int)-1)=some t:=by
     unfold L2.rq
     rw[Yp,if_pos (by omega),if_pos (by rw[length_map,mh];omega),toNat_natCast]
    refine⟨_,rfl,tt,_,0,_,rfl,rfl,AF.of Yq,rfl,_,rfl,_,rfl,_,_,rfl,rfl,A.li,_,_,t,rfl,rfl,Nh,ixa,?_⟩
    have hLa:cM (kn++mo++E3) (xY.set t i4) ((R.take (t+1)++cr::dn).set t (cF 50 r cr).1):=hL.pre.set t Th
    have c5:=c4.BG hLa.li
    rw[BU,<-JL]at c5
    have Ln:iJ H (upd H4 A.li (.lst (((nI xY).map V.int).set t (.int i4)))) (a::A.all) (a::A4.all):=(tP.trans Tg).trans (iJ.upd (by rw[<-BU];exact mem_cons_of_mem _ (mem_append_left _ (by simp[Ad.hd]))) _)
    have X4:(upd H4 A.li (.lst (((nI xY).map V.int).set t (.int i4)))) tt=some (.tup [.int i4,.int j4]):=by rw[ah (bO Yq Nh (by intro zz;cases zz))];exact Yq
    generalize upd H4 A.li (.lst (((nI xY).map V.int).set t (.int i4)))=H5 at c5 Ln X4
    have abB:H5 A.li=some (.lst ((nI (xY.set t i4)).map V.int)):=by rw[<-BU];exact c5.hli
    have ixb:rq ((nI (xY.set t i4)).map V.int).length ((t+1:Nat):Int)=some (t+1):=by
     unfold L2.rq
     rw[if_pos (by omega),if_pos (by rw[length_map,mh,length_set];omega),toNat_natCast]
    refine⟨_,rfl,tt,_,1,_,rfl,rfl,AF.of X4,rfl,_,rfl,_,rfl,A.li,_,_,t+1,rfl,rfl,abB,ixb,?_⟩
    have Ys:=hLa.set (t+1) WS
    have c6:=c5.BG Ys.li
    rw[BU,<-JL]at c6
    have Yh:iJ H (upd H5 A.li (.lst (((nI (xY.set t i4)).map V.int).set (t+1) (.int j4)))) (a::A.all) (a::A4.all):=Ln.trans (iJ.upd (by rw[<-BU];exact mem_cons_of_mem _ (mem_append_left _ (by simp[Ad.hd]))) _)
    refine⟨_,rfl,_,_,rfl,rfl,?_⟩
    have abC:((R.take (t+1)++cr::dn).set t (cF 50 r cr).1).set (t+1) (cF 50 r cr).2=R.take t++(cF 50 r cr).1::(cF 50 r cr).2::dn:=by
     rw[etk,List.append_assoc,List.set_append_right _ _ (by omega),List.set_append_right _ _ (by omega),ltk,sub_self,show t+1-t=1 by omega]
     rfl
    rw[abC]at Ys
    rw[List.append_assoc]at c6 Ys
    dsimp only
    rw[Yp]
    refine⟨t,by omega,A4,mo++E3,WQ,WR,lo4,ke4,_,t,(cF 50 r cr).1,(cF 50 r cr).2::dn,_,rfl,c6.more (by omega),Ys,by omega,?_,rfl,Yh,BU⟩
    rw[<-hT,hsl,if_neg Yr,reverse_cons,List.append_assoc]
    rfl
end
end DL.pO
namespace DL.pO
open PySem PySem.Spec PyProof.Rows L2 DL
abbrev E4:Stmt:=inClass (top 21) 7
def abD(K:PySem.W.Frag):TE:=Y7 (fun xs H Q=>∃p ys,xs=[V.ref p]/\(ck K H p ys\/AF K H p ys)/\∀l,H l=none->Q (.ref l) (upd H l (.lst ys))) (N5 (U3 (QO K) (Va K (LK 1) "known") (LK 0)) QM)
def PV(K:PySem.W.Frag)(C:Addr):Sp:=fun vs H Q _=>∃(a:Addr)(A:Ad)(z:Int)(wn n:Nat)(kn:List RP)(ls:List Nat)(R:List RP)(B:Nat)(nu sh lo ke:List (List Key×V)),
 vs=[.ref a]/\iI C H a A (u9 z wn) n kn (nI ls) B nu sh lo ke/\cM kn ls R/\kn[wn]?=some (dW n)/\R.length<=1000/\∀(v:V)(H':Hp),aH H H'->Is K (fun x=>H x=none) H' (vc n R) v->Q v H'
section
variable{P:Program}{w:World}{K:PySem.W.Frag}{mg:Str->Option Value}{base:Heap}
theorem sc7:az ["self","many"] ["self"] (ae E4):=⟨rfl,rfl,rfl,by decide +kernel,rfl,by decide +kernel,by decide +kernel⟩
theorem W2{f C:Addr}{fd:FuncData}(F:AM K "form_told" "Comb.form_told" E4 f fd)(T:Lw K mg C):cu P w K mg base lB 1 f fd ["self"] (PV K C):=by
 refine F.ok sc7 (fun vs H Q E h=>?_) (fun cdv A outer s H vs Q E hr h=>?_)
 ·obtain⟨a,A,z,wn,n,kn,ls,R,B,nu,sh,lo,ke,rfl,_⟩:=h
  rfl
 ·obtain⟨a,A,z,wn,n,kn,ls,R,B,nu,sh,lo,ke,rfl,c,hR,hwn,hRl,k⟩:=h
  have hu:=rC hr
  refine⟨_,aC (cY (i:=1) sc7.nd rfl (Or.inl rfl) gX)
   (aC (rz PassesOwn.never (pw_and (jV qG (pv 1) (jt nE (by rfl) T.Yg dQ (aw (bA (pv 0) rfl) aJ)) (aK _)) (pw_and1 (jV HS (iK dC (bA (pv 0) rfl) (pv 1) (fun _ _=>rfl)) (bA (pv 0) rfl) (aK _)))).pt
    (bU (CB (i:=1) sc7.nd rfl (Or.inl rfl) gX HJ)))
   (bU (lW (tU (aw (pv 1) (aw (JU (te:=abD K) (Gz (N:=["number","self"]) (nt:=1) (caps:=[0]) (ae E4) ["self","many"] (by decide +kernel)) rfl (vN (AI D3 (bA (pv 0) rfl) (D1 (pv 1)) D0)) (fun _ _ _ _ _=>zj (i:=0) (by show Nodup (["number","self"]:List Str);decide +kernel) rfl (Or.inl rfl)) (fun _ _ _ _ _=>by exact qg nG (by rfl) T.mli lF (aw (iK dC (bA (pv 1) rfl) (pv 0) (fun _ _=>rfl)) aJ))) aJ)))))),?_⟩
  refine⟨fun m σ H2=>∃i:Nat,σ=[some (.ref a),some (.int i)]/\H2=H/\i<=R.length/\(∀j<i,R[j]?=some (dW n))/\m=R.length-i,⟨R.length,0,rfl,rfl,zero_le _,fun j hj=>absurd hj (Nat.not_lt_zero _),rfl⟩,?_⟩
  rintro m σ H2 ⟨i,rfl,rfl,hiR,hal,hm⟩
  refine⟨_,rfl,_,rfl,a,C,A.dx,_,_,rfl,c.ob,T.cl,T.li,BE,A.li,_,rfl,.inl (ck.of c.hli),_,_,rfl,rfl,_,rfl,?_⟩
  by_cases hlt:i<R.length
  ·rw[decide_eq_true (show(i:Int)<(((nI ls).map V.int).length:Nat)by rw[length_map,mh,hR.len];omega)]
   refine vq ?_
   obtain⟨mi,hm1,hm2⟩:=hR.at (getElem?_eq_getElem hlt)
   refine⟨_,rfl,a,C,A.dx,_,_,rfl,c.ob,T.cl,T.li,BE,_,rfl,A.li,_,i,.int mi,rfl,rfl,ck.of c.hli,jb (uw hm1),_,rfl,a,C,A.dx,_,_,rfl,c.ob,T.cl,T.wh,Wy,rfl,_,rfl,?_⟩
   by_cases he:R[i]=dW n
   ·rw[decide_eq_true (show V.int (mi:Int)=V.int (wn:Int)from congrArg V.int ((c.inj hm2 hwn).mpr he))]
    refine vq ?_
    refine⟨fun σ' H'=>∃m'<m,∃i:Nat,σ'=[some (.ref a),some (.int i)]/\H'=H2/\i<=R.length/\(∀j<i,R[j]?=some (dW n))/\m'=R.length-i,fun _ _ h=>h,_,rfl,_,_,rfl,rfl,R.length-(i+1),by omega,i+1,rfl,rfl,hlt,fun j hj=>?_,rfl⟩
    by_cases hji:j<i
    ·exact hal j hji
    ·have:j=i:=by omega
     subst this
     rw[getElem?_eq_getElem hlt,he]
   ·rw[decide_eq_false (show¬V.int (mi:Int)=V.int (wn:Int)from fun e=>he ((c.inj hm2 hwn).mp (by injection e)))]
    refine tX ?_
    have hcn:dB n R=i:=BH hal (by rw[getElem?_eq_getElem hlt];exact fun e=>he (Option.some.inj e))
    have Ti:x9 ((nI ls).map V.int) (some (i:Int)) none=(nI (ls.drop i)).map V.int:=by
     unfold x9 nI
     rw[nC _ _ _ (by omega),o7,toNat_natCast,length_map,length_map,hR.len,min_eq_left hiR,map_drop,map_drop]
     refine take_of_length_le ?_
     rw[length_drop,length_map,length_map,hR.len]
     exact Nat.le_refl _
    refine⟨_,rfl,_,rfl,a,C,A.dx,_,_,rfl,c.ob,T.cl,T.li,BE,_,rfl,_,rfl,A.li,_,rfl,ck.of c.hli,fun q hq=>?_⟩
    rw[Ti]
    have s1:=aI hq (.lst ((nI (ls.drop i)).map V.int))
    have hq1:(upd H2 q (.lst ((nI (ls.drop i)).map V.int))) q=some (.lst ((nI (ls.drop i)).map V.int)):=ar
    generalize upd H2 q (.lst ((nI (ls.drop i)).map V.int))=H1 at s1 hq1
    have Tj:cM kn (ls.drop i) (R.drop i):=by
     unfold cM
     rw[map_drop,map_drop,show ls.map (fun m=>kn[m]?)=R.map some from hR]
    refine⟨q,rfl,⟨_,ck.of hq1⟩,q,_,[.ref a],rfl,ck.of hq1,rfl,fun j i' v e1 e2=>?_,fun Dd hD=>?_⟩
    ·match j with
     |0=>
      have z1:0=i':=by simpa using e1
      have z2:V.ref a=v:=by simpa using e2
      subst z1 z2
      rfl
     |j+1=>simp at e1
    ·refine⟨fun j acc Hx=>∃as:List Addr,acc=as.map V.ref/\as.length=j/\j<=(R.drop i).length/\aH H1 Hx/\Hx Dd=some (.lst acc)/\(∀b∈as,H1 b=none/\b≠Dd)/\∀(k:Nat)(b:Addr)(r:RP),as[k]?=some b->(R.drop i)[k]?=some r->Hx b=some (.lst (r.1.map V.int)),⟨[],rfl,rfl,zero_le _,aI hD _,ar,(fun b hb=>nomatch hb),fun k b r e=>by simp at e⟩,?_,?_,?_⟩
     ·rintro j acc Hx ⟨as,rfl,_,_,sx,GV,_⟩
      exact⟨ck.of (sx _ _ hq1),GV⟩
     ·rintro j acc Hx x ⟨as,rfl,hj,Tn,sx,GV,hnew,hat⟩ hx
      have hjr:j<(ls.drop i).length:=by
       have:=(List.getElem?_eq_some_iff.mp hx).1
       rwa [length_map,mh]at this
      have Ni:j<(R.drop i).length:=by rw[<-Tj.len];exact hjr
      obtain⟨m,hm1,hm2⟩:=Tj.at (getElem?_eq_getElem Ni)
      rw[uw hm1]at hx
      cases hx
      have cx:=c.same (s1.trans sx)
      have IQ:m<A.ks.length:=by rw[c.BD];exact(List.getElem?_eq_some_iff.mp hm2).1
      have hb:=cx.hks m A.ks[m] _ (getElem?_eq_getElem IQ) hm2
      refine⟨_,rfl,a,C,A.dx,_,_,rfl,cx.ob,T.cl,T.kn,yT,_,rfl,A.kn,A.ks.map V.ref,m,.ref A.ks[m],rfl,rfl,ck.of cx.hkn,jb (by rw[getElem?_map,getElem?_eq_getElem IQ];rfl),A.ks[m],_,rfl,.inl (ck.of hb),fun l2 hl2=>?_⟩
      have To:Dd≠l2:=fun zz=>by rw[<-zz,GV]at hl2;cases hl2
      have hl1:H1 l2=none:=sx.free hl2
      refine⟨by rw[ah To];exact GV,by rw[length_map,hj];exact lt_of_lt_of_le (show j<1000001 by rw[length_drop]at Ni;omega) (by decide),as++[l2],by rw[map_append];rfl,by rw[length_append,hj];rfl,Ni,?_,ar,fun b Gy=>?_,fun k' b r e1 e2=>?_⟩
      ·intro y o hy
       have hyD:y≠Dd:=fun zz=>by rw[zz,hD]at hy;cases hy
       rw[ah hyD]
       exact aI hl2 _ _ _ (sx _ _ hy)
      ·rcases mem_append.mp Gy with h|h
       ·exact hnew b h
       ·have:b=l2:=by simpa using h
        rw[this];exact⟨hl1,Ne.symm To⟩
      ·by_cases hk:k'<as.length
       ·rw[getElem?_append_left hk]at e1
        have Vn:=hat k' b r e1 e2
        rw[ah (hnew b (mem_of_getElem? e1)).2]
        exact aI hl2 _ _ _ Vn
       ·obtain⟨z1,z2⟩:=pM e1 hk
        rw[hj]at z1
        rw[z1,getElem?_eq_getElem Ni]at e2
        cases e2
        rw[<-z2,ah (Ne.symm To)]
        exact ar
     ·rintro acc Hx ⟨as,rfl,hj,Tn,sx,GV,hnew,hat⟩
      refine⟨(by show 2<=sizeLine;decide),fun pt W3=>?_⟩
      have st:=aI W3 (.tup [V.int i,V.ref Dd])
      have hlen:as.length=((R.drop i).map (·.1)).length:=by
       rw[hj,length_map,mh,length_map]
       exact Tj.len
      have hD0:H2 Dd=none:=s1.free hD
      refine k _ _ ((s1.trans sx).trans st) ?_
      unfold vc
      rw[hcn]
      refine⟨pt,_,rfl,.inl ⟨(s1.trans sx).free W3,.inl ar⟩,_,_,rfl,rfl,_,_,rfl,⟨Dd,_,rfl,.inl ⟨hD0,.inl (st _ _ GV)⟩,?_⟩,rfl⟩
      have:=rS (K:=K) (P:=fun x=>H2 x=none) (H:=upd Hx pt (.tup [V.int i,V.ref Dd])) hlen (fun b hb=>s1.free (hnew b hb).1) fun k' b ns e1 e2=>by
       rw[getElem?_map]at e2
       cases hr:(R.drop i)[k']? with
       |none=>rw[hr]at e2;cases e2
       |some r=>
        rw[hr]at e2
        cases e2
        exact st _ _ (hat k' b r e1 hr)
      rw[map_map]at this
      exact this
  ·rw[decide_eq_false (show¬(i:Int)<(((nI ls).map V.int).length:Nat)by rw[length_map,mh,hR.len];omega)]
   refine tX ?_
   refine tX ?_
   have hcn:dB n R=i:=BH hal (by rw[getElem?_eq_none (by omega)];exact fun e=>nomatch e)
   have Ti:x9 ((nI ls).map V.int) (some (i:Int)) none=(nI (ls.drop i)).map V.int:=by
    unfold x9 nI
    rw[nC _ _ _ (by omega),o7,toNat_natCast,length_map,length_map,hR.len,min_eq_left hiR,map_drop,map_drop]
    refine take_of_length_le ?_
    rw[length_drop,length_map,length_map,hR.len]
    exact Nat.le_refl _
   refine⟨_,rfl,_,rfl,a,C,A.dx,_,_,rfl,c.ob,T.cl,T.li,BE,_,rfl,_,rfl,A.li,_,rfl,ck.of c.hli,fun q hq=>?_⟩
   rw[Ti]
   have s1:=aI hq (.lst ((nI (ls.drop i)).map V.int))
   have hq1:(upd H2 q (.lst ((nI (ls.drop i)).map V.int))) q=some (.lst ((nI (ls.drop i)).map V.int)):=ar
   generalize upd H2 q (.lst ((nI (ls.drop i)).map V.int))=H1 at s1 hq1
   have Tj:cM kn (ls.drop i) (R.drop i):=by
    unfold cM
    rw[map_drop,map_drop,show ls.map (fun m=>kn[m]?)=R.map some from hR]
   refine⟨q,rfl,⟨_,ck.of hq1⟩,q,_,[.ref a],rfl,ck.of hq1,rfl,fun j i' v e1 e2=>?_,fun Dd hD=>?_⟩
   ·match j with
    |0=>
     have z1:0=i':=by simpa using e1
     have z2:V.ref a=v:=by simpa using e2
     subst z1 z2
     rfl
    |j+1=>simp at e1
   ·refine⟨fun j acc Hx=>∃as:List Addr,acc=as.map V.ref/\as.length=j/\j<=(R.drop i).length/\aH H1 Hx/\Hx Dd=some (.lst acc)/\(∀b∈as,H1 b=none/\b≠Dd)/\∀(k:Nat)(b:Addr)(r:RP),as[k]?=some b->(R.drop i)[k]?=some r->Hx b=some (.lst (r.1.map V.int)),⟨[],rfl,rfl,zero_le _,aI hD _,ar,(fun b hb=>nomatch hb),fun k b r e=>by simp at e⟩,?_,?_,?_⟩
    ·rintro j acc Hx ⟨as,rfl,_,_,sx,GV,_⟩
     exact⟨ck.of (sx _ _ hq1),GV⟩
    ·rintro j acc Hx x ⟨as,rfl,hj,Tn,sx,GV,hnew,hat⟩ hx
     have hjr:j<(ls.drop i).length:=by
      have:=(List.getElem?_eq_some_iff.mp hx).1
      rwa [length_map,mh]at this
     have Ni:j<(R.drop i).length:=by rw[<-Tj.len];exact hjr
     obtain⟨m,hm1,hm2⟩:=Tj.at (getElem?_eq_getElem Ni)
     rw[uw hm1]at hx
     cases hx
     have cx:=c.same (s1.trans sx)
     have IQ:m<A.ks.length:=by rw[c.BD];exact(List.getElem?_eq_some_iff.mp hm2).1
     have hb:=cx.hks m A.ks[m] _ (getElem?_eq_getElem IQ) hm2
     refine⟨_,rfl,a,C,A.dx,_,_,rfl,cx.ob,T.cl,T.kn,yT,_,rfl,A.kn,A.ks.map V.ref,m,.ref A.ks[m],rfl,rfl,ck.of cx.hkn,jb (by rw[getElem?_map,getElem?_eq_getElem IQ];rfl),A.ks[m],_,rfl,.inl (ck.of hb),fun l2 hl2=>?_⟩
     have To:Dd≠l2:=fun zz=>by rw[<-zz,GV]at hl2;cases hl2
     have hl1:H1 l2=none:=sx.free hl2
     refine⟨by rw[ah To];exact GV,by rw[length_map,hj];exact lt_of_lt_of_le (show j<1000001 by rw[length_drop]at Ni;omega) (by decide),as++[l2],by rw[map_append];rfl,by rw[length_append,hj];rfl,Ni,?_,ar,fun b Gy=>?_,fun k' b r e1 e2=>?_⟩
     ·intro y o hy
      have hyD:y≠Dd:=fun zz=>by rw[zz,hD]at hy;cases hy
      rw[ah hyD]
      exact aI hl2 _ _ _ (sx _ _ hy)
     ·rcases mem_append.mp Gy with h|h
      ·exact hnew b h
      ·have:b=l2:=by simpa using h
       rw[this];exact⟨hl1,Ne.symm To⟩
     ·by_cases hk:k'<as.length
      ·rw[getElem?_append_left hk]at e1
       have Vn:=hat k' b r e1 e2
       rw[ah (hnew b (mem_of_getElem? e1)).2]
       exact aI hl2 _ _ _ Vn
      ·obtain⟨z1,z2⟩:=pM e1 hk
       rw[hj]at z1
       rw[z1,getElem?_eq_getElem Ni]at e2
       cases e2
       rw[<-z2,ah (Ne.symm To)]
       exact ar
    ·rintro acc Hx ⟨as,rfl,hj,Tn,sx,GV,hnew,hat⟩
     refine⟨(by show 2<=sizeLine;decide),fun pt W3=>?_⟩
     have st:=aI W3 (.tup [V.int i,V.ref Dd])
     have hlen:as.length=((R.drop i).map (·.1)).length:=by
      rw[hj,length_map,mh,length_map]
      exact Tj.len
     have hD0:H2 Dd=none:=s1.free hD
     refine k _ _ ((s1.trans sx).trans st) ?_
     unfold vc
     rw[hcn]
     refine⟨pt,_,rfl,.inl ⟨(s1.trans sx).free W3,.inl ar⟩,_,_,rfl,rfl,_,_,rfl,⟨Dd,_,rfl,.inl ⟨hD0,.inl (st _ _ GV)⟩,?_⟩,rfl⟩
     have:=rS (K:=K) (P:=fun x=>H2 x=none) (H:=upd Hx pt (.tup [V.int i,V.ref Dd])) hlen (fun b hb=>s1.free (hnew b hb).1) fun k' b ns e1 e2=>by
      rw[getElem?_map]at e2
      cases hr:(R.drop i)[k']? with
      |none=>rw[hr]at e2;cases e2
      |some r=>
       rw[hr]at e2
       cases e2
       exact st _ _ (hat k' b r e1 hr)
     rw[map_map]at this
     exact this
end
end DL.pO
namespace DL.pO
open PySem PySem.Spec PyProof.Rows L2 DL
abbrev Du:Stmt:=inClass (top 21) 0
def Uz(i:Int):List (Str×V):=[("none",.int i)]
def PX(K:PySem.W.Frag)(C:Addr):Sp:=fun vs H Q _=>∃(a dx:Addr)(n:Nat),vs=[.ref a,.int n]/\(1<=n/\n<=7)/\H a=some (.ins C dx [])/\(∃o,H dx=some o)/\a≠dx/\
 ∀(H':Hp)(A':Ad)(kn:List RP)(zn wn:Nat)(nu:List (List Key×V)),iI C H' a A' (u9 zn wn) n kn (nI []) 2 nu [] [] []->kn[zn]?=some (upTo n,upTo n)->kn[wn]?=some (dW n)->(∀x u,x≠a->H x=some u->x≠dx->H' x=some u)->(∀x∈A'.all,x=dx\/H x=none)->(∀x,H' x=none->H x=none)->Q .non H'
section
variable{P:Program}{w:World}{K:PySem.W.Frag}{mg:Str->Option Value}{base:Heap}
theorem sc0:az ["self","n"] ["self","n"] (ae Du):=⟨rfl,rfl,rfl,by decide +kernel,rfl,by decide +kernel,by decide +kernel⟩
theorem W4{f C fN:Addr}{fd Kc:FuncData}(F:AM K "__init__" "Comb.__init__" Du f fd)(T:Lw K mg C)(t:Tb K mg)
  (mN:Meth K C "number_of" fN)(bN:Binds K Kc ["self","row"] [])(GN:cu P w K mg base lB 3 fN Kc ["self","row"] (BR K C))
  (G_s:jD P w K mg base 1 t.iW t.iX ["n"] cS)(G_h:jD P w K mg base 1 t.xG t.xH ["n"] rg)
  (es:∀n:Nat,n<=7->cS [.int n]=.ok (aA (upTo n)))(eh:∀n:Nat,1<=n/\n<=7->rg [.int n]=.ok (aA (upTo n).reverse))(ivh:∀n:Nat,Iv n (upTo n).reverse (upTo n).reverse)(ivs:∀n:Nat,Iv n (upTo n) (upTo n)):cu P w K mg base lB 4 f fd ["self","n"] (PX K C):=by
 refine F.ok sc0 (fun vs H Q E h=>?_) (fun cdv A outer s H vs Q E hr h=>?_)
 ·obtain⟨a,dx,n,rfl,_⟩:=h
  rfl
 ·obtain⟨a,dx,n,rfl,hn,hob,hdx,hne,k⟩:=h
  have hu:=rC hr
  refine⟨_,(aC (lX (pv 0) (tV aJ) rfl) (aC (lX (pv 0) rE rfl) (aC (lX (pv 0) (tV aJ) rfl) (aC (lX (pv 0) (tV aJ) rfl) (aC (lX (pv 0) rE rfl) (aC (lX (pv 0) rE rfl) (aC (lX (pv 0) rE rfl) (aC (lX (pv 0) (tV aJ) rfl) (aC (lX (pv 0) (ja (pv 0) T.cl mN GN (hr.mono (by decide)) bN .nil oE (aw (dX (E:=fun _ _ _=>False) G_s (hr.mono (by decide)) (by rfl) t.fq.m t.fq.F.kp t.fq.b .nil lD (aw (pv 1) aJ)) aJ)) rfl) (bU (lX (pv 0) (ja (pv 0) T.cl mN GN (hr.mono (by decide)) bN .nil oE (aw (dX (E:=fun _ _ _=>False) G_h (hr.mono (by decide)) (by rfl) t.uB.m t.uB.F.kp t.uB.b .nil lD (aw (pv 1) aJ)) aJ)) rfl))))))))))),?_⟩
  refine⟨(by show 0<=sizeLine;decide),fun l1 h1=>?_⟩
  obtain⟨ne1,W5,ob1,at1,Yt,LA⟩:=jA hob h1 (.lst []) "known"
  refine⟨_,rfl,a,C,dx,_,rfl,W5,T.cl,T.kn,(by show 0<1000;decide),?_⟩
  generalize hH1:upd (upd H l1 (.lst [])) a _=H1 at ob1 at1 Yt LA
  intro l2 h2
  obtain⟨ne2,W6,WG,at2,Nj,PY⟩:=jA ob1 h2 (.dT []) "numbers"
  refine⟨_,rfl,a,C,dx,_,rfl,W6,T.cl,T.nu,(by show 1<1000;decide),?_⟩
  generalize hH2:upd (upd H1 l2 (.dT [])) a _=H2 at WG at2 Nj PY
  refine⟨(by show 0<=sizeLine;decide),fun l3 h3=>?_⟩
  obtain⟨ne3,W7,WH,Tp,E5,Tq⟩:=jA WG h3 (.lst []) "firsts"
  refine⟨_,rfl,a,C,dx,_,rfl,W7,T.cl,T.fi,(by show 2<1000;decide),?_⟩
  generalize Lx:upd (upd H2 l3 (.lst [])) a _=H3 at WH Tp E5 Tq
  refine⟨(by show 0<=sizeLine;decide),fun l4 h4=>?_⟩
  obtain⟨ne4,W8,ob4,UA,BV,UB⟩:=jA WH h4 (.lst []) "lasts"
  refine⟨_,rfl,a,C,dx,_,rfl,W8,T.cl,T.la,(by show 3<1000;decide),?_⟩
  generalize hH4:upd (upd H3 l4 (.lst [])) a _=H4 at ob4 UA BV UB
  intro l5 h5
  obtain⟨ne5,W9,ob5,Xa,Az,Xb⟩:=jA ob4 h5 (.dT []) "shorter"
  refine⟨_,rfl,a,C,dx,_,rfl,W9,T.cl,T.sh,(by show 4<1000;decide),?_⟩
  generalize hH5:upd (upd H4 l5 (.dT [])) a _=H5 at ob5 Xa Az Xb
  intro l6 h6
  obtain⟨Yu,Xc,Yi,Yv,BW,Yw⟩:=jA ob5 h6 (.dT []) "longer"
  refine⟨_,rfl,a,C,dx,_,rfl,Xc,T.cl,T.lo,(by show 5<1000;decide),?_⟩
  generalize Ly:upd (upd H5 l6 (.dT [])) a _=H6 at Yi Yv BW Yw
  intro l7 h7
  obtain⟨ne7,Xd,ob7,at7,E6,gr7⟩:=jA Yi h7 (.dT []) "kept"
  refine⟨_,rfl,a,C,dx,_,rfl,Xd,T.cl,T.ke,(by show 6<1000;decide),?_⟩
  generalize hH7:upd (upd H6 l7 (.dT [])) a _=H7 at ob7 at7 E6 gr7
  refine⟨(by show 0<=sizeLine;decide),fun l8 h8=>?_⟩
  obtain⟨ne8,Xe,Yx,at8,Nk,gr8⟩:=jA ob7 h8 (.lst []) "line"
  refine⟨_,rfl,a,C,dx,_,rfl,Xe,T.cl,T.li,(by show 7<1000;decide),?_⟩
  generalize hH8:upd (upd H7 l8 (.lst [])) a _=H8 at Yx at8 Nk gr8
  have v1:H8 l1=some (.lst []):=(Nk _ _ ne1 (E6 _ _ ne1 (BW _ _ ne1 (Az _ _ ne1 (BV _ _ ne1 (E5 _ _ ne1 (Nj _ _ ne1 at1)))))))
  have v2:H8 l2=some (.dT []):=(Nk _ _ ne2 (E6 _ _ ne2 (BW _ _ ne2 (Az _ _ ne2 (BV _ _ ne2 (E5 _ _ ne2 at2))))))
  have v3:H8 l3=some (.lst []):=(Nk _ _ ne3 (E6 _ _ ne3 (BW _ _ ne3 (Az _ _ ne3 (BV _ _ ne3 Tp)))))
  have v4:H8 l4=some (.lst []):=(Nk _ _ ne4 (E6 _ _ ne4 (BW _ _ ne4 (Az _ _ ne4 UA))))
  have v5:H8 l5=some (.dT []):=(Nk _ _ ne5 (E6 _ _ ne5 (BW _ _ ne5 Xa)))
  have v6:H8 l6=some (.dT []):=(Nk _ _ Yu (E6 _ _ Yu Yv))
  have v7:H8 l7=some (.dT []):=(Nk _ _ ne7 at7)
  have v8:H8 l8=some (.lst []):=at8
  have kp:∀x u,x≠a->H x=some u->H8 x=some u:=fun x u hn hx=>(Nk _ _ hn (E6 _ _ hn (BW _ _ hn (Az _ _ hn (BV _ _ hn (E5 _ _ hn (Nj _ _ hn (Yt _ _ hn hx))))))))
  have gr:∀x,H8 x=none->H x=none:=fun x hx=>(LA _ (PY _ (Tq _ (UB _ (Xb _ (Yw _ (gr7 _ (gr8 _ hx))))))))
  have f1:H l1=none:=h1
  have f2:H l2=none:=(LA _ h2)
  have f3:H l3=none:=(LA _ (PY _ h3))
  have f4:H l4=none:=(LA _ (PY _ (Tq _ h4)))
  have f5:H l5=none:=(LA _ (PY _ (Tq _ (UB _ h5))))
  have f6:H l6=none:=(LA _ (PY _ (Tq _ (UB _ (Xb _ h6)))))
  have f7:H l7=none:=(LA _ (PY _ (Tq _ (UB _ (Xb _ (Yw _ h7))))))
  have f8:H l8=none:=(LA _ (PY _ (Tq _ (UB _ (Xb _ (Yw _ (gr7 _ h8)))))))
  have abL:l1≠l2:=au at1 h2
  have abM:l1≠l3:=au (Nj _ _ ne1 at1) h3
  have abN:l2≠l3:=au at2 h3
  have abO:l1≠l4:=au (E5 _ _ ne1 (Nj _ _ ne1 at1)) h4
  have abP:l2≠l4:=au (E5 _ _ ne2 at2) h4
  have abQ:l3≠l4:=au Tp h4
  have abR:l1≠l5:=au (BV _ _ ne1 (E5 _ _ ne1 (Nj _ _ ne1 at1))) h5
  have abS:l2≠l5:=au (BV _ _ ne2 (E5 _ _ ne2 at2)) h5
  have abT:l3≠l5:=au (BV _ _ ne3 Tp) h5
  have abU:l4≠l5:=au UA h5
  have abV:l1≠l6:=au (Az _ _ ne1 (BV _ _ ne1 (E5 _ _ ne1 (Nj _ _ ne1 at1)))) h6
  have abW:l2≠l6:=au (Az _ _ ne2 (BV _ _ ne2 (E5 _ _ ne2 at2))) h6
  have abX:l3≠l6:=au (Az _ _ ne3 (BV _ _ ne3 Tp)) h6
  have abY:l4≠l6:=au (Az _ _ ne4 UA) h6
  have abZ:l5≠l6:=au Xa h6
  have ab0:l1≠l7:=au (BW _ _ ne1 (Az _ _ ne1 (BV _ _ ne1 (E5 _ _ ne1 (Nj _ _ ne1 at1))))) h7
  have ab1:l2≠l7:=au (BW _ _ ne2 (Az _ _ ne2 (BV _ _ ne2 (E5 _ _ ne2 at2)))) h7
  have ab2:l3≠l7:=au (BW _ _ ne3 (Az _ _ ne3 (BV _ _ ne3 Tp))) h7
  have ab3:l4≠l7:=au (BW _ _ ne4 (Az _ _ ne4 UA)) h7
  have ab4:l5≠l7:=au (BW _ _ ne5 Xa) h7
  have ab5:l6≠l7:=au Yv h7
  have ab6:l1≠l8:=au (E6 _ _ ne1 (BW _ _ ne1 (Az _ _ ne1 (BV _ _ ne1 (E5 _ _ ne1 (Nj _ _ ne1 at1)))))) h8
  have ab7:l2≠l8:=au (E6 _ _ ne2 (BW _ _ ne2 (Az _ _ ne2 (BV _ _ ne2 (E5 _ _ ne2 at2))))) h8
  have ab8:l3≠l8:=au (E6 _ _ ne3 (BW _ _ ne3 (Az _ _ ne3 (BV _ _ ne3 Tp)))) h8
  have ab9:l4≠l8:=au (E6 _ _ ne4 (BW _ _ ne4 (Az _ _ ne4 UA))) h8
  have aca:l5≠l8:=au (E6 _ _ ne5 (BW _ _ ne5 Xa)) h8
  have acb:l6≠l8:=au (E6 _ _ Yu Yv) h8
  have acd:l7≠l8:=au at7 h8
  have vd:∃o,H8 dx=some o:=by
   obtain⟨o,ho⟩:=hdx
   exact⟨o,kp _ _ (Ne.symm hne) ho⟩
  have PZ:∀{l:Addr},H l=none->l≠dx:=fun hl z=>by
   obtain⟨o,ho⟩:=hdx
   rw[<-z,hl]at ho
   cases ho
  have c:iI C H8 a ⟨dx,l1,l2,l3,l4,l5,l6,l7,l8,[]⟩ [] n [] [] 0 [] [] [] []:=by
   refine⟨Yx,vd,?_,v1,rfl,(fun i b p e=>by simp at e),v2,v3,v4,v5,v6,v7,v8,(fun p hp=>by simp at hp),(fun i p e=>by simp at e),(fun r _=>rfl),(fun i k v e=>by cases e),(fun i k v e=>by cases e),(fun i j v e=>by cases e),⟨Nat.le_refl _,Nat.le_refl _,Nat.le_refl _,Nat.le_refl _,Nat.le_refl _⟩,(fun m hm=>by simp at hm)⟩
   show(a::dx::l1::l2::l3::l4::l5::l6::l7::l8::[]).Nodup
   simp only [nodup_cons,mem_cons,not_mem_nil,or_false,not_or,not_false_eq_true,List.nodup_nil,and_true]
   exact⟨⟨hne,Ne.symm ne1,Ne.symm ne2,Ne.symm ne3,Ne.symm ne4,Ne.symm ne5,Ne.symm Yu,Ne.symm ne7,Ne.symm ne8⟩,⟨Ne.symm (PZ f1),Ne.symm (PZ f2),Ne.symm (PZ f3),Ne.symm (PZ f4),Ne.symm (PZ f5),Ne.symm (PZ f6),Ne.symm (PZ f7),Ne.symm (PZ f8)⟩,⟨abL,abM,abO,abR,abV,ab0,ab6⟩,⟨abN,abP,abS,abW,ab1,ab7⟩,⟨abQ,abT,abX,ab2,ab8⟩,⟨abU,abY,ab3,ab9⟩,⟨abZ,ab4,aca⟩,⟨ab5,acb⟩,acd⟩
  generalize Yx=Yx at c
  clear W5 W6 W7 W8 W9 Xc Xd Xe
  have frF:∀x∈(⟨dx,l1,l2,l3,l4,l5,l6,l7,l8,[]⟩:Ad).all,x=dx\/H x=none:=fun x hx=>by
   unfold Ad.all Ad.hd at hx
   simp only [append_nil,mem_cons,not_mem_nil,or_false]at hx
   rcases hx with rfl|rfl|rfl|rfl|rfl|rfl|rfl|rfl|rfl
   ·exact .inl rfl
   ·exact .inr f1
   ·exact .inr f2
   ·exact .inr f3
   ·exact .inr f4
   ·exact .inr f5
   ·exact .inr f6
   ·exact .inr f7
   ·exact .inr f8
  generalize (⟨dx,l1,l2,l3,l4,l5,l6,l7,l8,[]⟩:Ad)=A at c frF
  refine⟨_,rfl,a,A.dx,_,rfl,c.ob,rfl,_,rfl,fun _=>True,[.int n],⟨_,_,rfl,rfl,rfl⟩,?_⟩
  rw[es n hn.2]
  intro q ws H9 s9 hq9 hw9 iw9
  have ew:=gh iw9
  subst ew
  have c9:=c.same s9
  have nF:∀{Hx Hy:Hp}{Ax:Ad}{y:Addr}{exx:List (Str×V)}{knn:List RP}{lnn:List Int}{BB:Nat}{nn ss ll kk:List (List Key×V)},iI C Hx a Ax exx n knn lnn BB nn ss ll kk->Hx y=none->y∉a::Ax.all:=fun cx hy hx=>by
   obtain⟨o,ho⟩:=cx.there hx
   rw[hy]at ho
   cases ho
  refine⟨a,A,[],n,[],[],0,[],[],[],[],(upTo n,upTo n),.ref q,rfl,c9,hn.2,by decide,ivs n,⟨q,_,rfl,.inl ⟨nF (Hy:=H9) c hq9,.inl hw9⟩,bW _⟩,fun i1 A6 A1 WY WZ c10 hi1 zX Ux=>?_⟩
  refine⟨_,rfl,a,C,A1.dx,_,rfl,c10.ob,T.cl,T.no,(by show 8<1000;decide),?_⟩
  have Yy:=c10.Po (Uz i1)
  have Xf:iJ H8 (upd A6 a (.ins C A1.dx (vC A1++(Uz i1)))) (a::A.all) (a::A1.all):=((iJ.same s9 _).trans zX).trans (iJ.upd mem_cons_self _)
  rw[show km ("none":Str) (.int (i1:Int)) (vC A1++[])=vC A1++(Uz i1)from rfl]
  generalize upd A6 a (.ins C A1.dx (vC A1++(Uz i1)))=Uh at Yy Xf
  refine⟨_,rfl,a,A1.dx,_,rfl,Yy.ob,rfl,_,rfl,fun _=>True,[.int n],⟨_,_,rfl,rfl,rfl⟩,?_⟩
  rw[eh n hn]
  intro q2 X6 H12 Mr acf acg ach
  have Yz:=gh ach
  subst Yz
  have c12:=Yy.same Mr
  refine⟨a,A1,(Uz i1),n,[]++WY,[],1,WZ,[],[],[],dW n,.ref q2,rfl,c12,hn.2,by decide,ivh n,⟨q2,_,rfl,.inl ⟨nF (Hy:=H12) Yy acf,.inl acg⟩,bW _⟩,fun i2 H13 A2 mo2 wq c13 hi2 Dt Uw=>?_⟩
  refine⟨_,rfl,a,C,A2.dx,_,rfl,c13.ob,T.cl,T.wh,(by show 9<1000;decide),?_⟩
  have c14:=c13.Po (u9 i1 i2)
  rw[show km ("whole":Str) (.int (i2:Int)) (vC A2++(Uz i1))=vC A2++u9 i1 i2 from rfl]
  have Tt:iJ H8 (upd H13 a (.ins C A2.dx (vC A2++u9 i1 i2))) (a::A.all) (a::A2.all):=((Xf.trans (iJ.same Mr _)).trans Dt).trans (iJ.upd mem_cons_self _)
  refine k _ A2 ([]++WY++mo2) i1 i2 wq c14 (bV hi1) hi2 (fun x u hx h1 h2=>?_) (fun x hx=>?_) (fun x hx=>gr x (Tt.gr x hx))
  ·refine Tt.kp x u (fun hm=>?_) (kp x u hx h1)
   rcases mem_cons.mp hm with z|z
   ·exact hx z
   ·rcases frF x z with z|z
    ·exact h2 z
    ·rw[z]at h1;cases h1
  ·rcases Tt.nw x (mem_cons_of_mem _ hx)with z|z
   ·rcases mem_cons.mp z with z|z
    ·rw[z]at hx
     exact absurd hx (nodup_cons.mp c14.nd).1
    ·exact frF x z
   ·exact .inr (gr x z)
end
end DL.pO
namespace DL.pO
open PySem PySem.Spec PyProof.Rows L2 DL
theorem Tu{α:Type}(r:R α)(c:Str):r.ne≠.err c:=by cases r<;>exact fun z=>nomatch z
structure CbM(P:Program)(w:World)(K:PySem.W.Frag)(mg:Str->Option Value)(base:Heap)(C:Addr) where
 fI:Addr
 dI:FuncData
 fP:Addr
 dP:FuncData
 fT:Addr
 dT:FuncData
 M:Mk K C fI
 bI:Binds K dI ["self","n"] []
 GI:cu P w K mg base lB 4 fI dI ["self","n"] (PX K C)
 mP:Meth K C "put" fP
 bP:Binds K dP ["self","row"] []
 GP:cu P w K mg base lB 7 fP dP ["self","row"] (PR K C)
 mT:Meth K C "form_told" fT
 bT:Binds K dT ["self"] []
 GT:cu P w K mg base lB 1 fT dT ["self"] (PV K C)
section
variable{P:Program}{w:World}{K:PySem.W.Frag}{mg:Str->Option Value}{base:Heap}
theorem Tv{C:Addr}(T:Lw K mg C)(Z:CbM P w K mg base C)(t:Tb K mg)(G_r:Uo P w K mg base 3 t.cP t.cQ ["steps"] bc):
  Ok P w K mg base 9 t.gu t.gw ["n","steps"] dN:=by
 refine t.jK.F.ok eJ (fun vs H Q E h=>?_) (fun cdv A outer s H vs Q E hr h=>?_)
 ·obtain⟨Pa,ds,i,h⟩:=h
  match ds,h with
  |[.int n,d],h=>
   obtain⟨v,r,rfl,_,v',r',rfl,_,e⟩:=i
   have e':r'=[]:=e
   subst e'
   rfl
 ·obtain⟨Pa,ds,i,h⟩:=h
  obtain⟨n,d,rfl⟩:∃n d,ds=[.int n,d]:=by
   match ds,h with
   |[.int n,d],h=>exact⟨n,d,rfl⟩
  obtain⟨v0,r0,rfl,i0,v1,r1,rfl,i1,e2⟩:=i
  have Ud:r1=[]:=e2
  have e0':v0=.int n:=i0
  subst Ud e0'
  cases em:dN [.int n,d]with
  |bad=>rw[em]at h;exact h.elim
  |err c=>exact absurd em (Tu _ c)
  |ok aci=>
  rw[em]at h
  have em':R.bind (bc [d]) (fun rs=> @ite _ ((1<=n/\n<=7)/\rs.length<=40/\∀r∈rs,aP n.toNat r) (propDecidable _) (R.bind (EO [.val (.int n),.val d,.no,.no,.val (vc n.toNat (fY n.toNat rs))]) aj) .bad)=.ok aci:=R.bO em
  obtain⟨rs,hrs,Xg⟩:=R.ee em'
  by_cases hg:(1<=n/\n<=7)/\rs.length<=40/\∀r∈rs,aP n.toNat r
  case neg=>
   rw[if_neg hg]at Xg
   cases Xg
  case pos=>
  rw[if_pos hg]at Xg
  obtain⟨hn,agF,zY⟩:=hg
  obtain⟨m,rfl⟩:∃m:Nat,n=m:=⟨n.toNat,by omega⟩
  rw[toNat_natCast]at Xg zY
  have hu:=rC hr
  refine⟨_,aC (cY (i:=2) eJ.nd rfl (Or.inl rfl) (L4 Z.M Z.GI (hr.mono (by decide)) (by rfl) T.mgC Z.bI .nil oE (aw (pv 0) aJ)))
   (aC (HM PassesOwn.never rfl (vN (dX (E:=fun _ _ _=>False) G_r (hr.mono (by decide)) (by rfl) t.bR.m t.bR.F.kp t.bR.b .nil lD (aw (pv 1) aJ))) (zj (i:=3) eJ.nd rfl (Or.inl rfl))
    (bU (gf (ja (pv 2) T.cl Z.mP Z.GP (hr.mono (by decide)) Z.bP .nil oE (aw (pv 3) aJ)) rfl)))
   (aC (cY (i:=4) eJ.nd rfl (Or.inl rfl) (HX (pv 2) T.cl Z.mT Z.GT (hr.mono (by decide)) Z.bT .nil oE))
   (aZ (gU (E:=EN) (Ip (aB (bx gY cK (PE.aF (wK (nD 4) (PE.aF cI))) (PE.aF (Wb rfl t.J2 (PE.AW (oG (Gz (N:=["step"]) (nt:=1) (caps:=[]) (ae iT) ["n","steps","comb","row","found"] (by decide +kernel)) rfl (wN (iL (nD 1))) (Kp.ok (uj (nt:=1) 0)) (fun _ _ _ _ _=>(tE 0 (by show Nodup (["step"]:List Str);decide +kernel))) (fun _ _ _ _ _=>Lp) (fun _ _ _ _ _=>(wK (nD 0) (PE.aF cI)))))))) (aB (wK (nD 4) (PE.aF cI)) bG))))))),?_⟩
  refine⟨_,rfl,fun x dx hx hdx hne=>?_⟩
  refine⟨x,dx,m,rfl,by omega,ar,⟨_,by rw[ah hne];exact ar⟩,Ne.symm hne,fun H1 A1 YA zn wn WZ c1 hz1 hw1 Yt nw1 LA=>⟨rfl,?_⟩⟩
  have s01:aH H H1:=fun y u hy=>by
   have hyx:y≠x:=fun z=>by rw[z,hx]at hy;cases hy
   have hyd:y≠dx:=fun z=>by rw[z,hdx]at hy;cases hy
   exact Yt y u hyx (by rw[ah hyx,ah hyd];exact hy) hyd
  have nF1:∀y∈x::A1.all,H y=none:=fun y hy=>by
   rcases mem_cons.mp hy with rfl|hy
   ·exact hx
   ·rcases nw1 y hy with rfl|hy
    ·exact hdx
    ·by_cases z1:y=x
     ·rw[z1];exact hx
     ·by_cases z2:y=dx
      ·rw[z2];exact hdx
      ·rw[ah z1,ah z2]at hy;exact hy
  refine⟨_,rfl,fun _=>True,[d],⟨_,_,rfl,(i1.same s01).weak,rfl⟩,?_⟩
  rw[hrs]
  intro la as H2 Mr Xh
  have c2:=c1.same Mr
  have hlen:=Xh.len
  have asF:∀b∈la::as,b∉x::A1.all:=fun b hb hF=>by
   obtain⟨o,ho⟩:=c1.there hF
   rw[Xh.fr b hb]at ho
   cases ho
  refine⟨la,rfl,⟨_,ck.of Xh.ha⟩,HN (K:=K) (a:=la) (xs:=as.map V.ref) (fun i σ Hx=>∃(A2:Ad)(mo:List RP)(ls:List Nat)(B2:Nat)(wq xJ lo2 Lz:List (List Key×V))(rv:Option V),σ=[some (.int (m:Int)),some v1,some (.ref x),rv,none]/\iI C Hx x A2 (u9 zn wn) m (YA++mo) (nI ls) B2 wq xJ lo2 Lz/\
    cM (YA++mo) ls (fY m (rs.take i))/\B2<=2+402*41*i/\i<=rs.length/\iJ H2 Hx (x::A1.all) (x::A2.all)) ⟨A1,[],[],2,WZ,[],[],[],none,rfl,by rw[append_nil];exact c2,rfl,by omega,zero_le _,iJ.refl _ _⟩ ?_ ?_ ?_⟩
  ·rintro i σ Hx hi ⟨A2,mo,ls,B2,wq,xJ,lo2,Lz,rv,rfl,c3,hL,hB,hir,tP⟩
   exact ck.of (tP.kp la _ (asF la (by simp)) Xh.ha)
  ·rintro i y σ Hx hy ⟨A2,mo,ls,B2,wq,xJ,lo2,Lz,rv,rfl,c3,hL,hB,hir,tP⟩
   have hia:i<as.length:=by
    have:=(List.getElem?_eq_some_iff.mp hy).1
    rwa [length_map]at this
   have Xi:i<rs.length:=by rw[<-hlen];exact hia
   rw[getElem?_map,getElem?_eq_getElem hia]at hy
   cases hy
   have hr1:rs[i]?=some rs[i]:=getElem?_eq_getElem Xi
   have hb2:=Xh.it i as[i] rs[i] (getElem?_eq_getElem hia) hr1
   have hbF:=asF as[i] (mem_cons_of_mem _ (getElem_mem _))
   have hb3:=tP.kp _ _ hbF hb2
   have ack:as[i]∉x::A2.all:=fun hF=>by
    rcases tP.nw _ hF with z|z
    ·exact hbF z
    ·rw[hb2]at z;cases z
   have hcl:=sy m (rs.take i) []
   have Nm:(fY m (rs.take i)).length<=40:=by
    unfold fY
    rw[length_nil,length_take]at hcl
    omega
   refine⟨_,rfl,x,A2.dx,_,rfl,c3.ob,rfl,_,rfl,x,A2,zn,wn,m,YA++mo,ls,fY m (rs.take i),B2,wq,xJ,lo2,Lz,(rs[i],tH rs[i]),.ref as[i],rfl,c3,hL,bV hz1,by omega,by omega,by omega,hU (zY _ (getElem_mem _)),⟨as[i],_,rfl,.inl ⟨ack,.inl hb3⟩,bW _⟩,fun H4 A4 E3 ls4 WQ WR lo4 ke4 c4 hL4 Tg=>?_⟩
   rw[List.append_assoc]at c4 hL4
   exact⟨A4,mo++E3,ls4,_,WQ,WR,lo4,ke4,_,rfl,c4,by rw[GK hr1];exact hL4,by omega,Xi,tP.trans Tg⟩
  ·rintro σ Hx ⟨A2,mo,ls,B2,wq,xJ,lo2,Lz,rv,rfl,c3,hL,hB,hir,tP⟩
   rw[length_map,hlen,take_length]at hL
   have hcl:=sy m rs []
   have Nm:(fY m rs).length<=1000:=by
    unfold fY
    rw[length_nil]at hcl
    omega
   refine⟨_,rfl,x,A2.dx,_,rfl,c3.ob,rfl,x,A2,zn,wn,m,YA++mo,ls,fY m rs,B2,wq,xJ,lo2,Lz,rfl,c3,hL,bV hw1,Nm,fun fv H5 s5 i5=>?_⟩
   have sHx:aH H Hx:=fun y u hy=>tP.kp y u (fun hF=>by rw[nF1 y hF]at hy;cases hy) (Mr _ _ (s01 _ _ hy))
   have sH5:=sHx.trans s5
   refine⟨⟨Pa,H⟩,[.val (.int (m:Int)),.val d,.no,.no,.val (vc m (fY m rs))],[],⟨rfl,sH5,fun i dd e=>?_,fun i xs e=>?_,fun i j xs ys b e=>?_,(fun b hb=>nomatch hb),fun i v e=>?_,CS.none fun i w e=>?_⟩,?_⟩
   ·match i with
    |0=>cases e;exact⟨_,rfl,rfl⟩
    |1=>cases e;exact⟨_,rfl,Is.ext ⟨fun a o p _=>⟨.inl p,fun z=>nomatch z⟩,fun a o _ q=>sH5 a o q⟩ _ _ i1⟩
    |2=>cases e
    |3=>cases e
    |4=>cases e;exact⟨_,rfl,Is.ext ⟨fun a o p _=>⟨.inr (sHx.free p),fun z=>nomatch z⟩,fun a o _ q=>q⟩ _ _ i5⟩
    |i+5=>cases e
   ·match i with
    |0=>cases e
    |1=>cases e
    |2=>cases e
    |3=>cases e
    |4=>cases e
    |i+5=>cases e
   ·match i with
    |0=>cases e
    |1=>cases e
    |2=>cases e
    |3=>cases e
    |4=>cases e
    |i+5=>cases e
   ·match i with
    |0=>cases e
    |1=>cases e
    |2=>cases e
    |3=>cases e
    |4=>cases e
    |i+5=>cases e
   ·match i with
    |0=>cases e
    |1=>cases e
    |2=>cases e
    |3=>cases e
    |4=>cases e
    |i+5=>cases e
   ·obtain⟨o,ho,hv⟩:=R.ee Xg
    obtain⟨dd,hdd,ho2⟩:=R.ee (show R.bind _ (fun v1=>R.ok (Out.rt v1))=.ok o from ho)
    cases ho2
    cases hv
    exact vW ho fun v H' sH' V0=>h v H' sH' (Is.ext ⟨fun a o p _=>p.1,fun a o _ q=>q⟩ _ _ V0)
end
end DL.pO
namespace DL
open PySem PySem.Spec PyProof.Rows L2
def b9:List Int->List Int->Option (List Int)
 |[],o=>some o
 |k::w,o=>if k<0\/aa o k.toNat<aa o (k-1).toNat then none else b9 w (dA o (k-1).toNat)
theorem fH{n a:Nat}{o w:List Int}:b9 (((a:Int)+1)::w) o=if aa o (a+1)<aa o a then none else b9 w (dA o a):=by
 conv=>lhs;unfold b9
 rw[show((a:Int)+1).toNat=a+1 by omega,show((a:Int)+1-1).toNat=a by omega]
 by_cases h:aa o (a+1)<aa o a
 ·rw[if_pos (.inr h),if_pos h]
 ·rw[if_neg (by rintro(z|z);omega;exact h z),if_neg h]
def Ps(n:Nat)(w:List Int):Prop:=∀k∈w,∃a:Nat,k=(a:Int)+1/\a+1<n
def k9(w o:List Int):List Int:=w.foldl (fun o k=>dA o (k-1).toNat) o
theorem E7(f:Int->Int):∀(l:List Int)(a:Nat),dA (l.map f) a=(dA l a).map f
 |[],a=>by cases a<;>rfl
 |[x],0=>rfl
 |[x],a+1=>by cases a<;>rfl
 |x::y::l,0=>rfl
 |x::y::l,a+1=>by
  show dA (f x::map f (y::l)) (a+1)=_
  rw[pL,pL,E7 f (y::l) a]
  rfl
theorem Kj{n a:Nat}(h:a+1<n):dA (upTo n) a=(upTo n).map (sg a):=by
 refine aT (by rw[fE,length_map]) fun j hj=>?_
 rw[fE,ai]at hj
 have e:=aU (r:=upTo n) (a:=a) (p:=j) (by rw[ai];exact hj)
 unfold nR at e
 rw[e,g9 _ _ (by rw[ai];exact h),ao hj]
 unfold sg
 by_cases h1:j=a
 ·rw[if_pos h1,ao (by omega),if_pos (show(j:Int)=a by omega)]
  omega
 ·rw[if_neg h1,if_neg (show¬(j:Int)=a by omega)]
  by_cases h2:j=a+1
  ·rw[if_pos h2,ao (by omega),if_pos (show(j:Int)=a+1 by omega)]
  ·rw[if_neg h2,if_neg (show¬(j:Int)=a+1 by omega)]
theorem zZ(f:Int->Int):∀(w o:List Int),k9 w (o.map f)=(k9 w o).map f
 |[],o=>rfl
 |k::w,o=>by
  show k9 w (dA (o.map f) (k-1).toNat)=(k9 w (dA o (k-1).toNat)).map f
  rw[E7,zZ f w]
theorem kO(n:Nat):Iv n (upTo n) (upTo n):=⟨ai n,ai n,fun p hp=>by rw[ao hp,toNat_natCast];exact⟨by omega,by omega,ao hp⟩,fun p hp=>by rw[ao hp,toNat_natCast];exact⟨by omega,by omega,ao hp⟩⟩
theorem Dv{n:Nat}:∀w:List Int,Ps n w->Iv n (k9 w.reverse (upTo n)) (k9 w (upTo n))
 |[],_=>kO n
 |k::w,h=>by
  obtain⟨a,rfl,ha⟩:=h k (by simp)
  have ih:=Dv w fun x hx=>h x (by simp[hx])
  rw[reverse_cons]
  have e1:k9 (((a:Int)+1)::w) (upTo n)=nR (k9 w (upTo n)) a:=by
   show k9 w (dA (upTo n) ((a:Int)+1-1).toNat)=_
   rw[show((a:Int)+1-1).toNat=a by omega,Kj ha,zZ]
   rfl
  have e2:k9 (w.reverse++[(a:Int)+1]) (upTo n)=dA (k9 w.reverse (upTo n)) a:=by
   unfold k9
   rw[foldl_append]
   show dA _ ((a:Int)+1-1).toNat=_
   rw[show((a:Int)+1-1).toNat=a by omega]
  rw[e1,e2]
  exact(ih.symm.step ha).symm
theorem P1{n:Nat}{o s:List Int}(h:Iv n o s){a:Nat}(ha:a+1<n):aa o a≠aa o (a+1):=fun e=>by
 have:=h.symm.Hw (v:=a) (w:=a+1) (by omega) ha e
 omega
theorem E8{n:Nat}{o s:List Int}(h:Iv n o s){a:Nat}(ha:a+1<n):gm (dA o a)=gm o+1/\aa o a<aa o (a+1)\/gm (dA o a)+1=gm o/\aa o (a+1)<aa o a:=by
 have e:=wb o a [] (by rw[h.lr];exact ha)
 have d:=P1 h ha
 unfold gm
 by_cases c:aa o a<aa o (a+1)
 ·rw[if_neg (by omega),if_pos c]at e
  exact .inl ⟨by omega,c⟩
 ·rw[if_pos (by omega),if_neg c]at e
  exact .inr ⟨by omega,by omega⟩
theorem nj{n:Nat}:∀(w o s z:List Int),Ps n w->Iv n o s->b9 w o=some z->z=k9 w o/\gm z=gm o+w.length
 |[],o,s,z,_,_,h=>by cases h;exact⟨rfl,rfl⟩
 |k::w,o,s,z,hw,hi,h=>by
  obtain⟨a,rfl,ha⟩:=hw k (by simp)
  rw[fH (n:=n)]at h
  split at h
  ·cases h
  ·rename_i hc
   obtain⟨e1,e2⟩:=nj w (dA o a) (nR s a) z (fun x hx=>hw x (by simp[hx])) (hi.symm.step ha).symm h
   have:=E8 hi ha
   refine⟨?_,by rw[e2,length_cons];omega⟩
   rw[e1]
   show _=k9 w (dA o ((a:Int)+1-1).toNat)
   rw[show((a:Int)+1-1).toNat=a by omega]
theorem BX{n:Nat}:∀(w o s:List Int),Ps n w->Iv n o s->gm (k9 w o)<=gm o+w.length/\(gm (k9 w o)=gm o+w.length->b9 w o=some (k9 w o))
 |[],o,s,_,_=>⟨Nat.le_refl _,fun _=>rfl⟩
 |k::w,o,s,hw,hi=>by
  obtain⟨a,rfl,ha⟩:=hw k (by simp)
  have e0:k9 (((a:Int)+1)::w) o=k9 w (dA o a):=by
   show k9 w (dA o ((a:Int)+1-1).toNat)=_
   rw[show((a:Int)+1-1).toNat=a by omega]
  obtain⟨e1,e2⟩:=BX w (dA o a) (nR s a) (fun x hx=>hw x (by simp[hx])) (hi.symm.step ha).symm
  rw[fH (n:=n),e0,length_cons]
  rcases E8 hi ha with⟨c1,c2⟩|⟨c1,c2⟩
  ·exact⟨by omega,fun h=>by rw[if_neg (by omega)];exact e2 (by omega)⟩
  ·exact⟨by omega,fun h=>by omega⟩
theorem Kl:∀n:Nat,n<8->gm (upTo n)=0:=by decide +kernel
theorem BZ{n:Nat}{w z:List Int}(hw:Ps n w)(h:b9 w (upTo n)=some z):b9 w.reverse (upTo n)=some (k9 w.reverse (upTo n)):=by
 obtain⟨e1,e2⟩:=nj w _ _ z hw (kO n) h
 refine(BX w.reverse (upTo n) (upTo n) (fun k hk=>hw k (by simpa using hk)) (kO n)).2 ?_
 rw[xq (Dv w hw),<-e1,e2,length_reverse]
theorem E9{n:Nat}{w z:List Int}(hw:Ps n w)(h:b9 w (upTo n)=some z):Iv n z (k9 w.reverse (upTo n)):=by
 rw[(nj w _ _ z hw (kO n) h).1]
 exact(Dv w hw).symm
theorem uD:∀(w o:List Int)(k:Int),b9 (w++[k]) o=(b9 w o).bind fun z=>b9 [k] z
 |[],o,k=>rfl
 |x::w,o,k=>by
  rw[cons_append]
  unfold b9
  split
  ·rfl
  ·exact uD w _ k
theorem Iv.nd {n:Nat}{r s:List Int}(h:Iv n r s):s.Nodup:=by
 unfold Nodup
 rw[List.pairwise_iff_getElem]
 intro i j hi hj hij e
 rw[h.ls]at hi hj
 have e2:aa s i=aa s j:=by
  unfold aa
  rw[getElem?_eq_getElem,getElem?_eq_getElem]
  ·exact e
 have:=h.Hw hi hj e2
 omega
theorem og{n:Nat}{r s:List Int}(h:Iv n r s):aP n r:=by
 refine(List.perm_ext_iff_of_nodup h.symm.nd (xo n)).mpr fun x=>?_
 rw[mem_upTo]
 constructor
 ·intro hx
  obtain⟨p,hp,rfl⟩:=getElem_of_mem hx
  rw[h.lr]at hp
  have:=h.rs p hp
  rw[show aa r p=r[p]by
   unfold aa
   rw[getElem?_eq_getElem]
   rfl]at this
  exact⟨this.1,this.2.1⟩
 ·rintro⟨h0,h1⟩
  have:=(h.idx (v:=x.toNat) (by omega)).1
  rwa [show((x.toNat:Nat):Int)=x by omega]at this
def fl(n:Nat)(l:List Int):List Int:=l.map fun x=>(n:Int)-1-x
theorem oh(n:Nat)(l:List Int):(fl n l).length=l.length:=length_map _
theorem sS{n:Nat}{l:List Int}{p:Nat}(h:p<l.length):aa (fl n l) p=(n:Int)-1-aa l p:=by
 have:=cL h
 unfold fl
 conv=>lhs;unfold aa
 rw[getElem?_map,this]
 rfl
theorem fu{l:List Int}{p:Nat}(h:p<l.length):aa l.reverse p=aa l (l.length-1-p):=by
 unfold aa
 rw[getElem?_reverse h]
theorem P4(n:Nat):fl n (upTo n).reverse=upTo n:=by
 refine aT (by rw[oh,length_reverse]) fun p hp=>?_
 rw[oh,length_reverse,ai]at hp
 rw[sS (by rw[length_reverse,ai];exact hp),fu (by rw[ai];exact hp),ai,ao (by omega),ao hp]
 omega
theorem Km{n:Nat}{r:List Int}(h:aP n r):aP n (fl n r):=by
 have e:fl n (upTo n)=(upTo n).reverse:=by
  rw[<-P4 n]
  unfold fl
  rw[map_reverse,reverse_reverse,<-map_reverse]
  congr 1
  have:=P4 n
  unfold fl at this
  rw[this]
 exact(Perm.map _ h).trans (by
  show(fl n (upTo n)).Perm _
  rw[e]
  exact reverse_perm _)
theorem Fb{n:Nat}{r:List Int}(h:aP n r):aP n r.reverse:=(reverse_perm r).trans h
theorem lV(n:Nat)(hn:n<=7):cS [.int n]=.ok (aA (upTo n)):=by
 unfold cS xf
 simp -implicitDefEqProofs only [mS,mD,mF,eg,aG,reduceAdd,reduceSub,reduceEqDiff,reduceIte,aj,ak,aL,aM,aN,aO]
 rw[yJ _ (by omega),toNat_natCast,yR]
 simp -implicitDefEqProofs only [reduceIte,aj,ak,aL,aM,aN,aO,fQ]
theorem GW{n:Nat}{r s:List Int}(h:Iv n r s)(hn:n<=7):rZ [.lst (aA r)]=.ok (aA (fl n s)):=by
 unfold rZ Ew
 simp -implicitDefEqProofs only [mS,mD,mF,eg,aG,reduceAdd,reduceSub,reduceEqDiff,reduceIte,aj,ak,aL,aM,aN,aO]
 rw[qj h hn]
 simp -implicitDefEqProofs only [reduceIte,aj,ak,aL,aM,aN,aO,fO]
 rw[kD (fun k=>(n:Int)-1-k) s fun k _=>⟨_,fR _ _ _,rfl,by
  unfold xm jQ
  simp -implicitDefEqProofs only [reduceIte,aj,ak,aL,aM,aN,aO,aR,h.lr]⟩]
 simp -implicitDefEqProofs only [reduceIte,aj,ak,aL,aM,aN,aO,R.kC]
 rw[fz (by rw[length_map,h.ls];omega)]
 simp -implicitDefEqProofs only [reduceIte,aj,ak,aL,aM,aN,aO,fQ]
 rfl
theorem Dw{n:Nat}{r:List Int}(h:r.length=n)(hn:n<=7):fV [.lst (aA r)]=.ok (aA (fl n r.reverse)):=by
 unfold fV qK
 simp -implicitDefEqProofs only [mS,mD,mF,eg,aG,reduceAdd,reduceSub,reduceEqDiff,reduceIte,aj,ak,aL,aM,aN,aO,zG,fO]
 rw[kD (fun k=>(n:Int)-1-k) r.reverse fun k _=>⟨_,fR _ _ _,rfl,by
  unfold mV jQ
  simp -implicitDefEqProofs only [reduceIte,aj,ak,aL,aM,aN,aO,aR,h]⟩]
 simp -implicitDefEqProofs only [reduceIte,aj,ak,aL,aM,aN,aO,R.kC]
 rw[fz (by rw[length_map,length_reverse];omega)]
 simp -implicitDefEqProofs only [reduceIte,aj,ak,aL,aM,aN,aO,fQ]
 rfl
theorem Kn{b:D->DE->R Out}{x:D}{xs:List D}{e e':DE}(h:b x e=.ok (.nx e')):dH b (x::xs) e=dH b xs e':=by
 rw[dH,h];rfl
theorem uE(gs:List (List Int))(c:List Int):Bf (gs++[c]) (.int (-1))=.ok (gs.length,c):=by
 have hk:rq (gs++[c]).length (-1)=some gs.length:=by
  unfold L2.rq
  rw[if_neg (by decide),length_append,length_singleton,if_pos (by omega)]
  congr 1
  omega
 have hg:(gs++[c])[gs.length]?=some c:=by simp
 unfold Bf
 simp -implicitDefEqProofs only [hk,hg]
theorem Fc{ix:Nat}{env:DE}{nss:List (List Int)}{k:Nat}{l:List Int}{v:Int}(h:l.length<1000):C5 ix env nss (k,l) (.int v)=.ok (.nx (env.set ix (.deep (Ct.ls (nss.set k (l++[v])))))):=if_pos (lt_of_lt_of_le h (by decide))
theorem Fd{ix:Nat}{env:DE}{nss:List (List Int)}{ns:List Int}(h:nss.length<1000):Jh ix env nss ns=.ok (.nx (env.set ix (.deep (Ct.ls (nss++[ns]))))):=if_pos (lt_of_lt_of_le h (by decide))
theorem kP(nss:List (List Int))(r:DE):gF 0 (.deep (Ct.ls nss)::r)=.ok nss:=rfl
theorem kQ(i:Nat)(a:Sl)(r:DE):gF (i+1) (a::r)=gF i r:=rfl
theorem Ko(nss:List (List Int))(r:DE):bf 0 (.deep (Ct.ls nss)::r)=.ok (.lst (nss.map fun ns=>.lst (aA ns))):=rfl
theorem Tw{n:Nat}(hn:n<=7){o:List Int}(ho:o.length=n)(s0 s1 s3:Sl){a:Nat}(ha:a+1<n)(hc:¬aa o (a+1)<aa o a):lJ (.int ((a:Int)+1)) [s0,s1,.own (aA o),s3]=.ok (.nx [s0,s1,.own (aA (dA o a)),.val (.int ((a:Int)+1))]):=by
 unfold lJ
 have h0:¬(a:Int)+1<0:=by omega
 simp -implicitDefEqProofs only [fR,mS,mD,mF,eg,aG,reduceAdd,reduceSub,reduceEqDiff,reduceIte,aj,ak,aL,aM,aN,aO,h0,decide_false]
 rw[eI (by omega) (by omega),eI (by omega) (by omega),show((a:Int)+1-1).toNat=a by omega,show((a:Int)+1).toNat=a+1 by omega]
 simp -implicitDefEqProofs only [reduceIte,aj,ak,aL,aM,aN,aO,hc,decide_false]
 rw[uu (by omega) (by omega)]
 simp -implicitDefEqProofs only [reduceIte,aj,ak,aL,aM,aN,aO]
theorem B0{n:Nat}(hn:n<=7)(s0 s1:Sl):∀(w o z:List Int)(s3:Sl),Ps n w->o.length=n->b9 w o=some z->∃s3',dH lJ (aA w) [s0,s1,.own (aA o),s3]=.ok (.nx [s0,s1,.own (aA z),s3'])
 |[],o,z,s3,_,_,h=>by cases h;exact⟨s3,rfl⟩
 |k::w,o,z,s3,hv,ho,h=>by
  obtain⟨a,rfl,ha⟩:=hv k (by simp)
  rw[fH (n:=n)]at h
  split at h
  ·cases h
  ·rename_i hc
   rw[<-rQ,Kn (Tw hn ho s0 s1 s3 ha hc)]
   exact B0 hn s0 s1 w (dA o a) z _ (fun x hx=>hv x (by simp[hx])) (by rw[fE,ho]) h
theorem yX{n:Nat}(hn:n<=7){w z:List Int}(hv:Ps n w)(h:b9 w (upTo n)=some z):mX [.int n,.lst (aA w)]=.ok (aA z):=by
 unfold mX Bs
 simp -implicitDefEqProofs only [mS,mD,mF,eg,aG,reduceAdd,reduceSub,reduceEqDiff,reduceIte,aj,ak,aL,aM,aN,aO]
 rw[lV n hn]
 simp -implicitDefEqProofs only [reduceIte,aj,ak,aL,aM,aN,aO]
 obtain⟨s3,e⟩:=B0 hn (.val (.int n)) (.val (.lst (aA w))) w (upTo n) z .no hv (ai n) h
 rw[e]
 simp -implicitDefEqProofs only [reduceIte,aj,ak,aL,aM,aN,aO,fQ]
def cU(l:List Int)(k:Int):List Int:=if l.getLast?=some (-k)then l.dropLast else l++[k]
def cC(s w:List Int):List Int:=w.foldl cU s
theorem B1(s a b:List Int):cC s (a++b)=cC (cC s a) b:=foldl_append
theorem p4:∀(w s:List Int),(cC s w).length<=s.length+w.length
 |[],s=>by simp[cC]
 |k::w,s=>by
  have:=p4 w (cU s k)
  show(cC (cU s k) w).length<=_
  have h2:(cU s k).length<=s.length+1:=by
   unfold cU
   split
   ·rw[List.length_dropLast];omega
   ·simp
  rw[length_cons];omega
theorem Dy(l:List Int):ju l (-1)=l.getLast?:=by
 rw[List.getLast?_eq_getElem?]
 unfold L2.ju L2.rq
 rw[if_neg (by decide)]
 cases l with
 |nil=>rfl
 |cons x r=>
  rw[if_pos (by simp;omega)]
  show(x::r)[(-1+((x::r).length:Int)).toNat]?=_
  congr 1
  simp;omega
theorem DA(w:List Int)(hw:w.length<=100000):mU [.lst (aA w)]=.ok (aA (cC [] w)):=by
 unfold mU yO
 simp -implicitDefEqProofs only [mS,mD,mF,eg,aG,reduceAdd,reduceSub,reduceEqDiff,reduceIte,aj,ak,aL,aM,aN,aO]
 obtain⟨s',e,hj⟩:=ui (S:=List Int×Sl) (b:=nQ) (fun i s=>s.1=cC [] (w.take i))
  (fun s=>[.val (.lst (aA w)),.own (aA s.1),s.2]) (aA w) 0 ([],.no) rfl (by
   rintro j ⟨l,s2⟩ x hs hx
   obtain⟨k,hk,rfl⟩:=Et hx
   rw[Nat.zero_add]at hs⊢
   have So:l=cC [] (w.take j):=hs
   have SR:=p4 (w.take j) []
   rw[<-So,length_take]at SR
   simp -implicitDefEqProofs only [length_nil]at SR
   refine⟨(cU l k,.val (.int k)),?_,by show cU l k=_;rw[Bm hk,B1,So];rfl⟩
   unfold nQ cU
   simp -implicitDefEqProofs only [fR,reduceIte,aj,ak,aL,aM,aN,aO,aR]
   cases l with
   |nil=>
    simp -implicitDefEqProofs only [length_nil,reduceIte,aj,ak,aL,aM,aN,aO,natCast_zero,Int.lt_irrefl,decide_false,List.getLast?_nil]
    rw[vZ (by simp[aA])]
    rfl
   |cons y r=>
    have h0:(0:Int)<((y::r).length:Nat):=by simp
    generalize hyr:y::r=l at*
    simp -implicitDefEqProofs only [h0,decide_true,reduceIte,aj,ak,aL,aM,aN,aO]
    rw[zD,Dy]
    cases hq:l.getLast? with
    |none=>rw[<-hyr]at hq;simp at hq
    |some z=>
     simp -implicitDefEqProofs only [map_some,reduceIte,aj,ak,aL,aM,aN,aO]
     by_cases hz:z= -k
     ·have X7:(z== -k)=true:=by rw[beq_iff_eq];exact hz
      subst hz
      simp -implicitDefEqProofs only [beq_self_eq_true,reduceIte,aj,ak,aL,aM,aN,aO]
      rw[MD (by rw[aR];omega)]
      simp -implicitDefEqProofs only [reduceIte,aj,ak,aL,aM,aN,aO]
      show _=R.ok (Out.nx [_,Sl.own (aA l.dropLast),_])
      unfold aA
      rw[map_dropLast]
     ·have X7:(z== -k)=false:=beq_false_of_ne hz
      have hz2:¬(some z=some (-k)):=fun e=>hz (Option.some.inj e)
      simp -implicitDefEqProofs only [X7,reduceIte,aj,ak,aL,aM,aN,aO]
      rw[vZ (by rw[aR];omega),if_neg hz2]
      simp -implicitDefEqProofs only [reduceIte,aj,ak,aL,aM,aN,aO]
      unfold aA
      rw[map_append]
      rfl)
 obtain⟨l,s2⟩:=s'
 rw[Nat.zero_add,aR,take_length]at hj
 have Dh:l=cC [] w:=hj
 dsimp only at e
 rw[show([]:List D)=aA []from rfl,e,Dh]
 simp -implicitDefEqProofs only [reduceIte,aj,ak,aL,aM,aN,aO,fQ]
theorem sU:∀(w s:List Int),∀k∈cC s w,k∈s\/k∈w
 |[],s,k,h=>.inl h
 |x::w,s,k,h=>by
  rcases sU w (cU s x) k h with h|h
  ·unfold cU at h
   split at h
   ·exact .inl (mem_of_mem_take (by rw[dropLast_eq_take]at h;exact h))
   ·rcases mem_append.mp h with h|h
    ·exact .inl h
    ·exact .inr (by rw[mem_singleton.mp h];exact mem_cons_self)
  ·exact .inr (mem_cons_of_mem _ h)
theorem Nn(s0:Sl)(b k:Int)(hk:1<=k/\k<=7)(s2:Sl):jY (.int k) [s0,.val (.int b),s2]=.ok (.nx [s0,.val (.int (Builtin.bitOr b (1*2^(k-1).toNat))),.val (.int k)]):=by
 unfold jY
 simp -implicitDefEqProofs only [fR,mS,mD,mF,eg,aG,reduceAdd,reduceSub,reduceEqDiff,reduceIte,aj,ak,aL,aM,aN,aO]
 rw[show ML (.int 1) (.int (k-1))=some (.int (1*2^(k-1).toNat))from if_pos (by
  unfold Ga
  exact⟨by omega,by omega,by decide⟩)]
 simp -implicitDefEqProofs only [reduceIte,aj,ak,aL,aM,aN,aO,GA]
theorem yY(s0:Sl):∀(ks:List Int)(b:Int)(s2:Sl),(∀k∈ks,1<=k/\k<=7)->∃s2',dH jY (aA ks) [s0,.val (.int b),s2]=.ok (.nx [s0,.val (.int (ks.foldl (fun b k=>Builtin.bitOr b (1*2^(k-1).toNat)) b)),s2'])
 |[],b,s2,_=>⟨s2,rfl⟩
 |k::ks,b,s2,h=>by
  rw[<-rQ,Kn (Nn s0 b k (h k (by simp)) s2)]
  exact yY s0 ks _ _ fun x hx=>h x (by simp[hx])
theorem Np:∀ks:List Int,(∀k∈ks,1<=k/\k<=7)->mW [.lst (aA ks)]=.ok (.int (Dl ks)):=fun ks h=>by
 unfold mW yP
 simp -implicitDefEqProofs only [mS,mD,mF,eg,aG,reduceAdd,reduceSub,reduceEqDiff,reduceIte,aj,ak,aL,aM,aN,aO]
 obtain⟨s2,e⟩:=yY (.val (.lst (aA ks))) ks 0 .no h
 rw[e]
 simp -implicitDefEqProofs only [reduceIte,aj,ak,aL,aM,aN,aO]
 rfl
theorem Nq(n:Nat):Iv n (upTo n).reverse (upTo n).reverse:=by
 have c:∀p,p<n->aa (upTo n).reverse p=((n-1-p:Nat):Int):=fun p hp=>by
  rw[fu (by rw[ai];exact hp),ai,ao (by omega)]
 have h:∀p,p<n->0<=aa (upTo n).reverse p/\aa (upTo n).reverse p<n/\aa (upTo n).reverse (aa (upTo n).reverse p).toNat=p:=fun p hp=>by
  rw[c p hp,toNat_natCast,c _ (by omega)]
  refine⟨by omega,by omega,?_⟩
  omega
 exact⟨by rw[length_reverse,ai],by rw[length_reverse,ai],h,h⟩
theorem Fe(n:Nat)(hn:1<=n/\n<=7):rg [.int n]=.ok (aA (upTo n).reverse):=by
 unfold rg Jv
 simp -implicitDefEqProofs only [mS,mD,mF,eg,aG,reduceAdd,reduceSub,reduceEqDiff,reduceIte,aj,ak,aL,aM,aN,aO]
 have er:Jf [.int ((n:Int)-1),.int (-1),.int (-1)]=.ok (Je ((n:Int)-1) (-1) (Builtin.Range.rangeSize ((n:Int)-1) (-1) (-1)).toNat):=if_pos (by unfold RC;omega)
 rw[er]
 have e2:Je ((n:Int)-1) (-1) (Builtin.Range.rangeSize ((n:Int)-1) (-1) (-1)).toNat=aA (upTo n).reverse:=by
  have hc:n=1\/n=2\/n=3\/n=4\/n=5\/n=6\/n=7:=by omega
  rcases hc with rfl|rfl|rfl|rfl|rfl|rfl|rfl<;>rfl
 rw[e2]
 simp -implicitDefEqProofs only [reduceIte,aj,ak,aL,aM,aN,aO,fQ]
theorem bZ(n:Nat):Iv n (upTo n) (upTo n):=⟨ai n,ai n,fun p hp=>by rw[ao hp,toNat_natCast];exact⟨by omega,by omega,ao hp⟩,fun p hp=>by rw[ao hp,toNat_natCast];exact⟨by omega,by omega,ao hp⟩⟩
inductive Rc (n:Nat):RP->RP->RP->RP->Prop
 |nil (p q:RP):Rc n p q p q
 |step {p q p' q':RP} {j:Nat}:j+1<n->aa p.1 j<aa p.1 (j+1)->aa q.2 (j+1)<aa q.2 j->Rc n (o4 p j) (rm q j) p' q'->Rc n p q p' q'
theorem Rc.iv {n:Nat}{p q p' q':RP}(h:Rc n p q p' q'):Iv n p.1 p.2->Iv n q.1 q.2->Iv n p'.1 p'.2/\Iv n q'.1 q'.2:=by
 induction h with
 |nil p q=>exact fun a b=>⟨a,b⟩
 |step hj h1 h2 _ ih=>exact fun a b=>ih (dS a hj) (dU b hj)
theorem Rc.ovr {n:Nat}{p q p' q' p0 q0:RP}(Ay:Iv n p0.1 p0.2)(h:Rc n p q p' q'):∀y,Iv n p.1 p.2->Iv n q.1 q.2->vG n p0 q0 p q y->∃y',vG n p0 q0 p' q' y':=by
 induction h with
 |nil p q=>exact fun y _ _ o=>⟨y,o⟩
 |step hj h1 h2 _ ih=>exact fun y a b o=>ih _ (dS a hj) (dU b hj) (o.step Ay a b hj h1 h2)
theorem rn{n:Nat}:∀(f:Nat)(p q:RP),Iv n p.1 p.2->Iv n q.1 q.2->Rc n p q (cF f p q).1 (cF f p q).2
 |0,p,q,_,_=>.nil p q
 |f+1,p,q,ip,iq=>by
  cases h:(kZ p q).getLast? with
  |none=>rw[m8 _ h];exact .nil p q
  |some k=>
   obtain⟨j,rfl,hj,h1,h2⟩:=nS ip iq (mem_of_getLast? h)
   rw[m7 f h,show((j:Int)+1-1).toNat=j by omega]
   exact .step hj h1 h2 (rn f _ _ (dS ip hj) (dU iq hj))
theorem vG.starts {n:Nat}{p q p' c' v:RP}(o:vG n p q p' c' v)(P5:Iv n p'.1 p'.2)(LB:Iv n c'.1 c'.2)(hf:kZ p' c'=[]){a:Nat}(ha:a+1<n)(hp:aa p.1 a<aa p.1 (a+1))(hq:aa q.2 (a+1)<aa q.2 a):aa v.2 (a+1)<aa v.2 a:=by
 refine byContradiction fun hc=>?_
 have iv:=o.iy
 obtain⟨x1,x2,x3⟩:=iv.sr a (by omega)
 obtain⟨y1,y2,y3⟩:=iv.sr (a+1) ha
 have qa:=o.pq a (by omega)
 have qb:=o.pq (a+1) ha
 generalize hx:(aa v.2 a).toNat=x at*
 generalize hy:(aa v.2 (a+1)).toNat=y at*
 have hxy:x<y:=by
  have:x≠y:=fun e=>by rw[e,y3]at x3;omega
  omega
 obtain⟨i,i1,i2,f1,f2⟩:=switch (fun i=>decide (aa c'.2 i<aa q.2 a)) (y-x) x (by rw[decide_eq_false];omega) (by rw[show x+(y-x)=y by omega,decide_eq_true];omega)
 have f1:=of_decide_eq_false f1
 have f2:=of_decide_eq_true f2
 have hin:i+1<n:=by omega
 have t1:=(cO P5 LB).mp hf i hin (by omega)
 have t2:=o.aq i (i+1) (by omega) hin (by omega)
 obtain⟨g1,g2,g3⟩:=iv.rs i (by omega)
 obtain⟨h1,h2,h3⟩:=iv.rs (i+1) hin
 rw[o.pl i (by omega),o.pl (i+1) hin]at t1
 generalize hg:(aa v.1 i).toNat=g at*
 generalize hh:(aa v.1 (i+1)).toNat=h at*
 rcases lt_or_ge a g with c|c
 ·have gn:g≠a+1:=fun e=>by rw[e]at g3;omega
  have:=o.aq i y (by omega) (by omega) (by omega)
  omega
 ·have tg:aa p.1 g<=aa p.1 a:=by
   rcases lt_or_ge g a with d|d
   ·have:x≠i:=fun e=>by rw[e]at x3;omega
    exact Int.le_of_lt (o.ap g a d (by omega) (by omega))
   ·rw[show g=a by omega];exact Int.le_refl _
  rcases lt_or_ge a h with d|d
  ·have th:aa p.1 (a+1)<=aa p.1 h:=by
    rcases lt_or_ge (a+1) h with e|e
    ·have:i+1≠y:=fun z=>by rw[<-z]at y3;omega
     exact Int.le_of_lt (o.ap (a+1) h e (by omega) (by omega))
    ·rw[show h=a+1 by omega];exact Int.le_refl _
   omega
  ·have:=o.aq x (i+1) (by omega) hin (by omega)
   omega
theorem Nr{a i j:Nat}(h:i<j)(hne:¬(i=a/\j=a+1)):sw a i<sw a j:=by
 unfold sw
 repeat' split
 all_goals omega
theorem z0{a:Nat}{x y:Int}(h:x<y)(hne:¬(x=a/\y=(a:Int)+1)):sg a x<sg a y:=by
 unfold sg
 repeat' split
 all_goals omega
theorem vG.pop {n:Nat}{p q p' c' v:RP}(o:vG n p q p' c' v)(ip:Iv n p.1 p.2)(iq:Iv n q.1 q.2){j:Nat}(hj:j+1<n)(hv:aa v.2 (j+1)<aa v.2 j):vG n (o4 p j) (rm q j) p' c' (rm v j):=by
 have iv:=o.iy
 refine⟨dU iv hj,fun t ht=>?_,fun t ht=>?_,fun i i' Ur wM h=>?_,fun i i' Ur wM h=>?_,fun t ht=>?_⟩
 ·obtain⟨h1,h2,_⟩:=ip.sr t ht
  show aa p'.2 t=aa (dA v.2 j) (aa (nR p.2 j) t).toNat
  rw[aU (by rw[ip.ls];exact ht),cX (by rw[iv.ls];exact hj),JO _ h1,o.pp t ht]
 ·show aa (dA q.2 j) t=aa c'.2 (aa (dA v.2 j) t).toNat
  rw[cX (by rw[iq.ls];exact hj),cX (by rw[iv.ls];exact hj),o.pq _ (xu hj ht)]
 ·change aa (dA v.2 j) i'<aa (dA v.2 j) i at h
  show aa (dA p.1 j) i<aa (dA p.1 j) i'
  rw[cX (by rw[iv.ls];exact hj),cX (by rw[iv.ls];exact hj)]at h
  rw[cX (by rw[ip.lr];exact hj),cX (by rw[ip.lr];exact hj)]
  have hne:¬(i=j/\i'=j+1):=fun⟨a,b⟩=>by
   subst a;subst b
   unfold sw at h
   rw[if_pos rfl,if_neg (by omega),if_pos rfl]at h
   omega
  exact o.ap _ _ (Nr Ur hne) (xu hj wM) h
 ·show aa (nR v.1 j) i<aa (nR v.1 j) i'
  have h2:=o.aq i i' Ur wM h
  rw[aU (by rw[iv.lr];omega),aU (by rw[iv.lr];exact wM)]
  refine z0 h2 fun⟨a,b⟩=>?_
  obtain⟨_,_,e1⟩:=iv.rs i (by omega)
  obtain⟨_,_,e2⟩:=iv.rs i' wM
  rw[a,toNat_natCast]at e1
  rw[b,show((j:Int)+1).toNat=j+1 by omega]at e2
  omega
 ·obtain⟨h1,h2,_⟩:=iv.rs t ht
  show aa p'.1 t=aa (dA p.1 j) (aa (nR v.1 j) t).toNat
  rw[aU (by rw[iv.lr];exact ht),cX (by rw[ip.lr];exact hj),JO _ h1,o.pl t ht]
theorem Rc.to {n:Nat}{p0 q0 p q p' c':RP}(h:Rc n p0 q0 p q):Iv n p0.1 p0.2->Iv n q0.1 q0.2->∀y,vG n p0 q0 p' c' y->Iv n p'.1 p'.2->Iv n c'.1 c'.2->kZ p' c'=[]->∃v,vG n p q p' c' v:=by
 induction h with
 |nil p q=>exact fun _ _ y o _ _ _=>⟨y,o⟩
 |step hj h1 h2 _ ih=>exact fun ip iq y o P5 LB hf=>ih (dS ip hj) (dU iq hj) _ (o.pop ip iq hj (o.starts P5 LB hf hj h1 h2)) P5 LB hf
theorem vG.same {n:Nat}{p q p' c' v:RP}(o:vG n p q p' c' v)(ip:Iv n p.1 p.2)(iq:Iv n q.1 q.2)(P5:Iv n p'.1 p'.2)(LB:Iv n c'.1 c'.2)(hf:kZ p q=[]):p'=p/\c'=q:=by
 have iv:=o.iy
 have hs:¬Lv n v:=fun⟨a,ha,hd⟩=>by
  have h1:=o.pq.nst iv LB o.aq ha hd
  have h2:=o.ap a (a+1) (by omega) ha hd
  have:=(cO ip iq).mp hf a ha h1
  omega
 have e:=wk iv (bZ n) hs
 have c:∀t,t<n->(aa (upTo n) t).toNat=t:=fun t ht=>by rw[ao ht];exact toNat_natCast t
 constructor
 ·refine jS P5 ip (aT (by rw[P5.lr,ip.lr]) fun t ht=>?_)
  rw[P5.lr]at ht
  rw[o.pl t ht,e]
  dsimp only
  rw[c t ht]
 ·have e2:c'.2=q.2:=aT (by rw[LB.ls,iq.ls]) fun t ht=>by
   rw[LB.ls]at ht
   rw[o.pq t ht,e]
   dsimp only
   rw[c t ht]
  refine jS LB iq (Iv.uniq (n:=n) (s:=q.2) ?_ iq)
  rw[<-e2]
  exact LB
theorem Rc.one {n:Nat}{p0 q0 p q p' c':RP}(Ay:Iv n p0.1 p0.2)(GQ:Iv n q0.1 q0.2)(h:Rc n p0 q0 p q)(hf:kZ p q=[])(h':Rc n p0 q0 p' c')(hf':kZ p' c'=[]):p'=p/\c'=q:=by
 obtain⟨y,o⟩:=h'.ovr Ay _ Ay GQ (vG.start Ay (bZ n))
 obtain⟨v,o2⟩:=h.to Ay GQ y o (h'.iv Ay GQ).1 (h'.iv Ay GQ).2 hf'
 exact o2.same (h.iv Ay GQ).1 (h.iv Ay GQ).2 (h'.iv Ay GQ).1 (h'.iv Ay GQ).2 hf
theorem DB(f:Int->Int):∀(l:List Int)(a:Nat),dA (l.map f) a=(dA l a).map f
 |[],a=>by cases a<;>rfl
 |[x],0=>rfl
 |[x],a+1=>by cases a<;>rfl
 |x::y::l,0=>rfl
 |x::y::l,a+1=>by
  show dA (f x::map f (y::l)) (a+1)=_
  rw[pL,pL,DB f (y::l) a]
  rfl
inductive vk (n:Nat):List RP->List RP->Prop
 |here {p q:RP} {B:List RP} {j:Nat}:j+1<n->aa p.1 j<aa p.1 (j+1)->aa q.2 (j+1)<aa q.2 j->vk n (p::q::B) (o4 p j::rm q j::B)
 |next {p:RP} {L L':List RP}:vk n L L'->vk n (p::L) (p::L')
inductive kR (n:Nat):List RP->List RP->Prop
 |nil (L:List RP):kR n L L
 |cons {L L' Xj:List RP}:vk n L L'->kR n L' Xj->kR n L Xj
theorem kR.trans {n:Nat}{L L' Xj:List RP}(h:kR n L L'):kR n L' Xj->kR n L Xj:=by
 induction h with
 |nil=>exact id
 |cons s _ ih=>exact fun g=>.cons s (ih g)
theorem kR.next {n:Nat}(p:RP){L L':List RP}(h:kR n L L'):kR n (p::L) (p::L'):=by
 induction h with
 |nil=>exact .nil _
 |cons s _ ih=>exact .cons (.next s) ih
theorem kR.app {n:Nat}(A:List RP){L L':List RP}(h:kR n L L'):kR n (A++L) (A++L'):=by
 induction A with
 |nil=>exact h
 |cons p A ih=>exact ih.next p
theorem vk.Nt {n:Nat}(B:List RP){L L':List RP}(h:vk n L L'):vk n (L++B) (L'++B):=by
 induction h with
 |here hj h1 h2=>exact .here hj h1 h2
 |next _ ih=>exact .next ih
theorem kR.Nt {n:Nat}(B:List RP){L L':List RP}(h:kR n L L'):kR n (L++B) (L'++B):=by
 induction h with
 |nil=>exact .nil _
 |cons s _ ih=>exact .cons (s.Nt B) ih
theorem Rc.UC {n:Nat}{p q p' q':RP}(h:Rc n p q p' q')(B:List RP):kR n (p::q::B) (p'::q'::B):=by
 induction h with
 |nil=>exact .nil _
 |step hj h1 h2 _ ih=>exact .cons (.here hj h1 h2) ih
theorem vk.iv {n:Nat}{L L':List RP}(h:vk n L L'):aX n L->aX n L':=by
 induction h with
 |here hj h1 h2=>
  intro hI x hx
  rcases mem_cons.mp hx with rfl|hx
  ·exact dS (hI _ (by simp)) hj
  ·rcases mem_cons.mp hx with rfl|hx
   ·exact dU (hI _ (by simp)) hj
   ·exact hI x (by simp[hx])
 |next _ ih=>
  intro hI x hx
  rcases mem_cons.mp hx with rfl|hx
  ·exact hI _ (by simp)
  ·exact ih (fun y hy=>hI y (by simp[hy])) x hx
theorem kR.iv {n:Nat}{L L':List RP}(h:kR n L L'):aX n L->aX n L':=by
 induction h with
 |nil=>exact id
 |cons s _ ih=>exact fun hI=>ih (s.iv hI)
def Hz(L:List RP):Nat:=(L.map fun p=>gm p.1).sum
def wt:List RP->Nat
 |[]=>0
 |_::L=>wt L+Hz L
theorem vk.Hz {n:Nat}{L L':List RP}(h:vk n L L'):aX n L->DL.Hz L'=DL.Hz L/\wt L'<wt L:=by
 induction h with
 | @here p q B j hj h1 h2=>
  intro hI
  have ip:=hI p (by simp)
  have iq:=hI q (by simp)
  have e1:gm (o4 p j).1=gm p.1+1:=(zO ip hj).1 h1
  have e2:gm (rm q j).1+1=gm q.1:=by
   rw[xq (dU iq hj),xq iq]
   exact(zO iq.symm hj).2 h2
  unfold DL.Hz wt wt DL.Hz
  simp -implicitDefEqProofs only [map_cons,sum_cons]
  omega
 | @next p L L' _ ih=>
  intro hI
  obtain⟨a,b⟩:=ih fun y hy=>hI y (by simp[hy])
  unfold wt
  rw[a]
  refine⟨?_,by omega⟩
  unfold DL.Hz at a⊢
  simp -implicitDefEqProofs only [map_cons,sum_cons]
  omega
theorem Nu(q:RP)(i j:Nat):o4 (rm q j) i=rm (o4 q i) j:=by
 unfold o4 rm nR
 rw[DB,DB]
theorem vk.side {n:Nat}{p q:RP}{B L:List RP}{j:Nat}(hj:j+1<n)(h1:aa p.1 j<aa p.1 (j+1))(h2:aa q.2 (j+1)<aa q.2 j)(iq:Iv n q.1 q.2)(s:vk n (q::B) L):
  ∃M,kR n (o4 p j::rm q j::B) M/\kR n (p::L) M:=by
 cases s with
 | @here _ r B' i hi g1 g2=>
  refine⟨o4 p j::o4 (rm q j) i::rm r i::B',.cons (.next (.here hi ?_ g2)) (.nil _),?_⟩
  ·show aa (nR q.1 j) i<aa (nR q.1 j) (i+1)
   rw[aU (by rw[iq.lr];omega),aU (by rw[iq.lr];exact hi)]
   refine z0 g1 fun⟨a,b⟩=>?_
   have e1:=(iq.rs i (by omega)).2.2
   have e2:=(iq.rs (i+1) hi).2.2
   rw[a,toNat_natCast]at e1
   rw[b,show((j:Int)+1).toNat=j+1 by omega]at e2
   omega
  ·rw[Nu]
   refine .cons (.here hj h1 ?_) (.nil _)
   show aa (nR q.2 i) (j+1)<aa (nR q.2 i) j
   rw[aU (by rw[iq.ls];exact hj),aU (by rw[iq.ls];omega)]
   refine z0 h2 fun⟨a,b⟩=>?_
   have e1:=(iq.sr (j+1) hj).2.2
   have e2:=(iq.sr j (by omega)).2.2
   rw[a,toNat_natCast]at e1
   rw[b,show((i:Int)+1).toNat=i+1 by omega]at e2
   omega
 | @next _ _ B2 s=>exact⟨o4 p j::rm q j::B2,.cons (.next (.next s)) (.nil _),.cons (.here hj h1 h2) (.nil _)⟩
theorem vk.join {n:Nat}(hn:n<=7){L L1:List RP}(h:vk n L L1):∀{L2:List RP},aX n L->vk n L L2->∃M,kR n L1 M/\kR n L2 M:=by
 induction h with
 | @here p q B j hj h1 h2=>
  intro L2 hI s
  have ip:=hI p (by simp)
  have iq:=hI q (by simp)
  cases s with
  | @here _ _ _ i hi g1 g2=>
   have r1:=rn (n:=n) 50 _ _ (dS ip hj) (dU iq hj)
   have r2:=rn (n:=n) 50 _ _ (dS ip hi) (dU iq hi)
   obtain⟨a,b⟩:=Rc.one ip iq (.step hj h1 h2 r1) (wj hn 50 _ _ (dS ip hj) (dU iq hj) (by omega)) (.step hi g1 g2 r2) (wj hn 50 _ _ (dS ip hi) (dU iq hi) (by omega))
   have s2:=r2.UC B
   rw[a,b]at s2
   exact⟨_,r1.UC B,s2⟩
  |next s=>exact vk.side hj h1 h2 iq s
 | @next p L L1 s1 ih=>
  intro L2 hI s
  cases s with
  | @here _ q B j hj h1 h2=>
   obtain⟨M,a,b⟩:=vk.side (p:=p) hj h1 h2 (hI q (by simp)) s1
   exact⟨M,b,a⟩
  |next s=>
   obtain⟨M,a,b⟩:=ih (fun y hy=>hI y (by simp[hy])) s
   exact⟨p::M,a.next p,b.next p⟩
def Nf(n:Nat)(L:List RP):Prop:=∀L',¬vk n L L'
theorem Xk{n:Nat}:∀(m:Nat)(L:List RP),wt L<=m->aX n L->∃N,kR n L N/\Nf n N:=fun m=>by
 induction m with
 |zero=>exact fun L h hI=>⟨L,.nil _,fun L' s=>by have:=(s.Hz hI).2;omega⟩
 |succ m ih=>
  intro L h hI
  rcases Classical.em (∃L',vk n L L')with⟨L',s⟩|hs
  ·obtain⟨N,a,b⟩:=ih L' (by have:=(s.Hz hI).2;omega) (s.iv hI)
   exact⟨N,.cons s a,b⟩
  ·exact⟨L,.nil _,fun L' s=>hs ⟨L',s⟩⟩
theorem Kq{n:Nat}(hn:n<=7):∀(m:Nat)(L:List RP),wt L<=m->aX n L->∀{N1 N2:List RP},kR n L N1->Nf n N1->kR n L N2->Nf n N2->N1=N2:=fun m=>by
 induction m with
 |zero=>
  intro L h hI N1 N2 a _ b _
  have z:∀{N},kR n L N->N=L:=fun{N} s=>by
   cases s with
   |nil=>rfl
   |cons s _=>have:=(s.Hz hI).2;omega
  rw[z a,z b]
 |succ m ih=>
  intro L h hI N1 N2 a n1 b n2
  cases a with
  |nil=>
   cases b with
   |nil=>rfl
   |cons s _=>exact absurd s (n1 _)
  | @cons _ L1 _ s1 a=>
   cases b with
   |nil=>exact absurd s1 (n2 _)
   | @cons _ L2 _ s2 b=>
    obtain⟨M,u,v⟩:=s1.join hn hI s2
    have w1:=(s1.Hz hI).2
    have w2:=(s2.Hz hI).2
    obtain⟨N,x,y⟩:=Xk (wt M) M (Nat.le_refl _) (u.iv (s1.iv hI))
    rw[ih L1 (by omega) (s1.iv hI) a n1 (u.trans x) y,ih L2 (by omega) (s2.iv hI) b n2 (v.trans x) y]
theorem Ff{n:Nat}:∀(ps:List RP)(c:RP),aX n ps->Iv n c.1 c.2->kR n (c::ps).reverse (vE ps c).reverse
 |[],c,_,_=>.nil _
 |p::ps,c,hI,ic=>by
  have ip:=hI p (by simp)
  unfold vE
  split
  ·exact .nil _
  ·obtain⟨i1,_⟩:=iI.xt (n:=n) 50 ip ic
   have r:=(rn (n:=n) 50 p c ip ic).UC []
   have h:=Ff ps (cF 50 p c).1 (fun y hy=>hI y (by simp[hy])) i1
   simp -implicitDefEqProofs only [reverse_cons,List.append_assoc]at h⊢
   refine(kR.app ps.reverse r).trans ?_
   have:=h.Nt [(cF 50 p c).2]
   simp -implicitDefEqProofs only [List.append_assoc]at this
   exact this
abbrev Zr(n:Nat):RP:=(upTo n,upTo n)
theorem Nv{n:Nat}(hn:n<=7){c:RP}(ic:Iv n c.1 c.2):cF 50 (Zr n) c=(c,Zr n):=by
 have iz:Iv n (Zr n).1 (Zr n).2:=bZ n
 have s:=gq hn iz ic (bZ n)
 obtain⟨y,o⟩:=s.ex
 have ct:∀t,t<n->(aa (upTo n) t).toNat=t:=fun t ht=>by rw[ao ht];exact toNat_natCast t
 have cz:∀t:Int,0<=t->t<n->aa (upTo n) t.toNat=t:=fun t h0 ht=>by rw[ao (by omega)];omega
 have e2:(cF 50 (Zr n) c).2=Zr n:=wk s.ic (bZ n) fun⟨a,ha,hd⟩=>by
  have h1:=(cO s.ip s.ic).mp s.fr a ha hd
  have h2:=o.aq a (a+1) (by omega) ha hd
  have b1:=o.iy.rs a (by omega)
  have b2:=o.iy.rs (a+1) ha
  rw[o.pl a (by omega),o.pl (a+1) ha]at h1
  dsimp only at h1
  rw[cz _ b1.1 b1.2.1,cz _ b2.1 b2.2.1]at h1
  omega
 have e1:(cF 50 (Zr n) c).1=c:=by
  have h:(cF 50 (Zr n) c).1.2=c.2:=aT (by rw[s.ip.ls,ic.ls]) fun t ht=>by
   rw[s.ip.ls]at ht
   have b1:=o.iy.sr t ht
   rw[o.pp t ht,o.pq t ht,e2]
   dsimp only
   rw[ct t ht,cz _ b1.1 b1.2.1]
  refine jS s.ip ic (Iv.uniq (n:=n) (s:=c.2) ?_ ic)
  rw[<-h]
  exact s.ip
 exact Prod.ext e1 e2
theorem DC{n:Nat}(hn:n<=7):∀(L:List RP),aX n L->kR n (Zr n::L) (L++[Zr n])
 |[],_=>.nil _
 |c::L,hI=>by
  have ic:=hI c (by simp)
  have r:=(rn (n:=n) 50 (Zr n) c (bZ n) ic).UC L
  rw[Nv hn ic]at r
  exact r.trans ((DC hn L fun y hy=>hI y (by simp[hy])).next c)
theorem vk.at_ {n:Nat}{L L':List RP}(h:vk n L L'):∃A p q B j,L=A++p::q::B/\j+1<n/\aa p.1 j<aa p.1 (j+1)/\aa q.2 (j+1)<aa q.2 j:=by
 induction h with
 | @here p q B j hj h1 h2=>exact⟨[],p,q,B,j,rfl,hj,h1,h2⟩
 | @next p _ _ _ ih=>
  obtain⟨A,x,q,B,j,e,r⟩:=ih
  exact⟨p::A,x,q,B,j,by rw[e];rfl,r⟩
theorem P6{n:Nat}{L:List RP}(h:ve L.reverse)(hI:aX n L):Nf n L:=fun L' s=>by
 obtain⟨A,p,q,B,j,e,hj,h1,h2⟩:=s.at_
 have hf:=h.at_ (A:=B.reverse) (B:=A.reverse) (p:=p) (q:=q) (by rw[e];simp)
 have:=(cO (hI p (by rw[e];simp)) (hI q (by rw[e];simp))).mp hf j hj h2
 omega
theorem Nx{n:Nat}{p:RP}(ip:Iv n p.1 p.2):kZ p (Zr n)=[]:=(cO ip (bZ n)).mpr fun j hj h=>by
 dsimp only at h
 rw[ao hj,ao (by omega)]at h
 omega
theorem DD{n:Nat}:∀(k:Nat){R:List RP},aX n R->ve R->ve (replicate k (Zr n)++R)
 |0,R,_,h=>h
 |k+1,R,hI,h=>by
  have ih:=DD k hI h
  rw[replicate_succ,cons_append]
  cases e:replicate k (Zr n)++R with
  |nil=>trivial
  |cons p L=>
   rw[e]at ih
   refine⟨Nx (n:=n) ?_,ih⟩
   have:p∈replicate k (Zr n)++R:=by rw[e];simp
   rcases mem_append.mp this with h|h
   ·rw[(mem_replicate.mp h).2];exact bZ n
   ·exact hI p h
def qv(n:Nat)(L:List RP):List RP:=L.foldl (eO n) []
theorem B3{n:Nat}(hn:n<=7):∀(L R:List RP),aX n L->qk n R->∃k,kR n (R++L) (L.foldl (eO n) R++replicate k (Zr n))/\qk n (L.foldl (eO n) R)
 |[],R,_,h=>⟨0,by simp -implicitDefEqProofs only [append_nil,List.foldl_nil,replicate_zero];exact .nil _,h⟩
 |c::L,R,hI,h=>by
  have ic:=hI c (by simp)
  have Lu:aX n L:=fun y hy=>hI y (by simp[hy])
  obtain⟨k,s,g⟩:=B3 hn L (eO n R c) Lu (Dm hn (bZ n) h ic)
  have s1:=Ff R.reverse c (fun y hy=>h.iv y (by simpa using hy)) ic
  rw[reverse_cons,reverse_reverse]at s1
  have s2:kR n (R++c::L) (sj R c++L):=by
   have:=s1.Nt L
   simp -implicitDefEqProofs only [List.append_assoc,List.singleton_append]at this
   exact this
  rw[foldl_cons]
  by_cases hd:(sj R c).getLast?=some (upTo n,upTo n)
  ·have e:eO n R c=(sj R c).dropLast:=if_pos hd
   have e2:sj R c=eO n R c++[Zr n]:=by
    rw[e]
    obtain⟨l,hl⟩:=List.getLast?_eq_some_iff.mp hd
    rw[hl,List.dropLast_concat]
   refine⟨k+1,?_,g⟩
   rw[e2,List.append_assoc,List.singleton_append]at s2
   refine s2.trans ((kR.app _ (DC hn L Lu)).trans ?_)
   have:=s.Nt [Zr n]
   rw[List.append_assoc,List.append_assoc]at this
   rw[List.replicate_succ']
   exact this
  ·have e:eO n R c=sj R c:=if_neg hd
   refine⟨k,?_,g⟩
   rw[<-e]at s2
   exact s2.trans s
theorem oi{n:Nat}(hn:n<=7){L:List RP}(hI:aX n L):∃k,kR n L (qv n L++replicate k (Zr n))/\qk n (qv n L):=
 B3 hn L [] hI ⟨(fun x hx=>nomatch hx),trivial,(fun x hx=>nomatch hx)⟩
theorem strip{n:Nat}{R:List RP}(h:qk n R)(k:Nat):(R++replicate k (Zr n)).filter (fun x=>decide (x≠Zr n))=R:=by
 rw[List.filter_append,List.filter_eq_self.mpr fun x hx=>decide_eq_true (JQ (h.ns x hx)),List.filter_eq_nil_iff.mpr fun x hx=>by rw[(mem_replicate.mp hx).2];simp,append_nil]
theorem Tz{n:Nat}(hn:n<=7){L L':List RP}(hI:aX n L)(s:kR n L L'):qv n L=qv n L':=by
 obtain⟨k,s1,g1⟩:=oi hn hI
 obtain⟨k',s2,g2⟩:=oi hn (s.iv hI)
 have nf:∀{R:List RP}(j:Nat),qk n R->Nf n (R++replicate j (Zr n)):=fun{R} j g=>P6 (by
  rw[reverse_append,List.reverse_replicate]
  exact DD j (fun y hy=>g.iv y (by simpa using hy)) g.lw) fun x hx=>by
   rcases mem_append.mp hx with h|h
   ·exact g.iv x h
   ·rw[(mem_replicate.mp h).2];exact bZ n
 have e:=Kq hn _ L (Nat.le_refl _) hI s1 (nf k g1) (s.trans s2) (nf k' g2)
 rw[<-strip g1 k,e,strip g2 k']
theorem ve.pre:∀{A B:List RP},ve (A++B)->ve A
 |[],_,_=>trivial
 |[_],_,_=>trivial
 |_::q::A,B,h=>⟨h.1,ve.pre (A:=q::A) (B:=B) h.2⟩
theorem z6{l:List Int}{p:Nat}(h:p<l.length):aa l.reverse p=aa l (l.length-1-p):=by
 unfold aa
 rw[getElem?_reverse h]
theorem DF{n:Nat}(hn:n<=7){L R:List RP}{k:Nat}(hI:aX n L)(g:qk n R)(s:kR n L (R++replicate k (Zr n))):qv n L=R:=by
 obtain⟨j,s1,g1⟩:=oi hn hI
 have nf:∀{R:List RP}(j:Nat),qk n R->Nf n (R++replicate j (Zr n)):=fun{R} j g=>P6 (by
  rw[reverse_append,List.reverse_replicate]
  exact DD j (fun y hy=>g.iv y (by simpa using hy)) g.lw) fun x hx=>by
   rcases mem_append.mp hx with h|h
   ·exact g.iv x h
   ·rw[(mem_replicate.mp h).2];exact bZ n
 have e:=Kq hn _ L (Nat.le_refl _) hI s1 (nf j g1) s (nf k g)
 rw[<-strip g1 j,e,strip g k]
theorem aX.app {n:Nat}{A B:List RP}(a:aX n A)(b:aX n B):aX n (A++B):=fun x hx=>(mem_append.mp hx).elim (a x) (b x)
theorem aX.one {n:Nat}{p:RP}(h:Iv n p.1 p.2):aX n [p]:=fun x hx=>by rw[mem_singleton.mp hx];exact h
theorem aX.cons {n:Nat}{p:RP}{L:List RP}(h:Iv n p.1 p.2)(a:aX n L):aX n (p::L):=fun x hx=>by
 rcases mem_cons.mp hx with rfl|hx
 ·exact h
 ·exact a x hx
theorem aX.rep {n:Nat}{p:RP}(h:Iv n p.1 p.2)(k:Nat):aX n (replicate k p):=fun x hx=>by rw[(mem_replicate.mp hx).2];exact h
theorem Fg{n:Nat}(hn:n<=7){A B:List RP}(hA:aX n A)(hB:aX n B):qv n (A++Zr n::B)=qv n (A++B):=by
 obtain⟨k,s,g⟩:=oi hn (hA.app hB)
 refine DF (k:=k+1) hn (hA.app (.cons (bZ n) hB)) g ?_
 refine(kR.app A (DC hn B hB)).trans ?_
 have:=s.Nt [Zr n]
 rw[List.append_assoc,List.append_assoc]at this
 rw[List.replicate_succ']
 exact this
theorem B4{n:Nat}(hn:n<=7){A B:List RP}(hA:aX n A)(hB:aX n B):∀k,qv n (A++(replicate k (Zr n)++B))=qv n (A++B)
 |0=>rfl
 |k+1=>by
  rw[replicate_succ,cons_append,Fg hn hA (aX.app (.rep (bZ n) k) hB),B4 hn hA hB k]
theorem qk.tail {n:Nat}{p:RP}{R:List RP}(h:qk n (p::R)):qk n R:=⟨fun x hx=>h.iv x (by simp[hx]),by
 have:=h.lw
 rw[reverse_cons]at this
 exact this.pre,fun x hx=>h.ns x (by simp[hx])⟩
theorem qk.drop {n:Nat}:∀(k:Nat){R:List RP},qk n R->qk n (R.drop k)
 |0,_,h=>h
 |_+1,[],h=>h
 |k+1,_::_,h=>qk.drop k h.tail
theorem du{n t:Nat}(h:t<n):aa (upTo n).reverse t=(n:Int)-1-t:=by
 rw[z6 (by rw[ai];exact h),ai,ao (by omega)]
 omega
theorem om(n:Nat):Iv n (dW n).1 (dW n).2:=by
 have h:∀p,p<n->0<=aa (upTo n).reverse p/\aa (upTo n).reverse p<n/\aa (upTo n).reverse (aa (upTo n).reverse p).toNat=p:=fun p hp=>by
  rw[du hp,du (by omega)]
  omega
 have l:(upTo n).reverse.length=n:=by rw[length_reverse,ai]
 exact⟨l,l,h,h⟩
theorem Kr{n:Nat}{q:RP}(iq:Iv n q.1 q.2):kZ (dW n) q=[]:=(cO (om n) iq).mpr fun j hj _=>by
 show aa (upTo n).reverse (j+1)<aa (upTo n).reverse j
 rw[du hj,du (by omega)]
 omega
theorem Ks{n:Nat}(h2:2<=n):Lv n (dW n):=⟨0,by omega,by
 show aa (upTo n).reverse 1<aa (upTo n).reverse 0
 rw[du (by omega),du (by omega)]
 omega⟩
theorem Fi{p:RP}:∀{L:List RP},ve L->(∀q A,L=A++[q]->kZ p q=[])->ve (L++[p])
 |[],_,_=>trivial
 |[q],_,h=>⟨h q [] rfl,trivial⟩
 |q::r::L,hl,h=>⟨hl.1,Fi (L:=r::L) hl.2 fun x A e=>h x (q::A) (by rw[e];rfl)⟩
theorem qk.half {n:Nat}(h2:2<=n){R:List RP}(h:qk n R):qk n (dW n::R):=⟨.cons (om n) h.iv,by
 rw[reverse_cons]
 refine Fi h.lw fun q A e=>Kr (h.iv q ?_)
 have:q∈R.reverse:=by rw[e];simp
 simpa using this,fun x hx=>by
  rcases mem_cons.mp hx with rfl|hx
  ·exact Ks h2
  ·exact h.ns x hx⟩
theorem Ku{n:Nat}(hn:n<=7)(h2:2<=n){L:List RP}(hI:aX n L):qv n (dW n::L)=dW n::qv n L:=by
 obtain⟨k,s,g⟩:=oi hn hI
 exact DF (k:=k) hn (.cons (om n) hI) (g.half h2) (s.next _)
def Vl(n:Nat)(h:Int)(L:List RP):Int×List RP:=(h+dB n (qv n L),(qv n L).drop (dB n (qv n L)))
theorem GX{n:Nat}(C:List RP):dB n (dW n::C)=dB n C+1:=by
 unfold dB
 rw[List.takeWhile_cons_of_pos (by simp),length_cons]
theorem z7{n:Nat}(hn:n<=7)(h2:2<=n)(h:Int){L:List RP}(hI:aX n L):Vl n h (dW n::L)=Vl n (h+1) L:=by
 unfold Vl
 rw[Ku hn h2 hI,GX,List.drop_succ_cons]
 exact Prod.ext (by show h+((dB n (qv n L)+1:Nat):Int)=h+1+(dB n (qv n L):Nat);omega) rfl
theorem uF{n:Nat}(hn:n<=7)(h2:2<=n){L:List RP}(hI:aX n L):∀(m:Nat)(h:Int),Vl n h (replicate m (dW n)++L)=Vl n (h+m) L
 |0,h=>by rw[replicate_zero,nil_append,natCast_zero,Int.add_zero]
 |m+1,h=>by
  rw[replicate_succ,cons_append,z7 hn h2 h (aX.app (.rep (om n) m) hI),uF hn h2 hI m (h+1),show h+1+(m:Int)=h+((m+1:Nat):Int)by omega]
theorem z8{n:Nat}(hn:n<=7)(h:Int){L L':List RP}(hI:aX n L)(s:kR n L L'):Vl n h L=Vl n h L':=by
 unfold Vl
 rw[Tz hn hI s]
theorem DG{n:Nat}(hn:n<=7)(h:Int){A B:List RP}(hA:aX n A)(hB:aX n B):Vl n h (A++Zr n::B)=Vl n h (A++B):=by
 unfold Vl
 rw[Fg hn hA hB]
theorem Fj{n:Nat}(hn:n<=7)(h:Int){A B:List RP}(hA:aX n A)(hB:aX n B)(k:Nat):Vl n h (A++(replicate k (Zr n)++B))=Vl n h (A++B):=by
 unfold Vl
 rw[B4 hn hA hB]
theorem P7{n:Nat}(hn:n<=7)(h:Int){L:List RP}(hI:aX n L):∃m k:Nat,(Vl n h L).1=h+m/\aX n (Vl n h L).2/\kR n L (replicate m (dW n)++((Vl n h L).2++replicate k (Zr n))):=by
 obtain⟨k,s,g⟩:=oi hn hI
 refine⟨dB n (qv n L),k,rfl,(qk.drop _ g).iv,?_⟩
 have e:=xw (n:=n) (qv n L)
 rw[<-List.append_assoc]
 show kR n L (replicate (dB n (qv n L)) (dW n)++(qv n L).drop (dB n (qv n L))++_)
 rw[<-e]
 exact s
theorem Kv{n:Nat}(hn:n<=7)(h2:2<=n)(h:Int){L B:List RP}(hI:aX n L)(hB:aX n B):Vl n h (L++B)=Vl n (Vl n h L).1 ((Vl n h L).2++B):=by
 obtain⟨m,k,e,hT,s⟩:=P7 hn h hI
 rw[e,z8 hn h (hI.app hB) (s.Nt B),List.append_assoc,List.append_assoc,uF hn h2 (aX.app hT (aX.app (.rep (bZ n) k) hB))]
 exact Fj hn _ hT hB k
theorem B5{n:Nat}{l:List Int}{p:Nat}(h:p<l.length):aa (fl n l) p=(n:Int)-1-aa l p:=by
 have:=cL h
 unfold fl
 conv=>lhs;unfold aa
 rw[getElem?_map,this]
 rfl
def lg(n:Nat)(p:RP):RP:=(fl n p.1.reverse,fl n p.2.reverse)
theorem bM{n:Nat}{l:List Int}(hl:l.length=n){t:Nat}(h:t<n):aa (fl n l.reverse) t=(n:Int)-1-aa l (n-1-t):=by
 rw[B5 (by rw[length_reverse,hl];exact h),z6 (by rw[hl];exact h),hl]
theorem b7{n:Nat}{l:List Int}(hl:l.length=n):(fl n l.reverse).length=n:=by unfold fl;rw[length_map,length_reverse,hl]
theorem uG{n:Nat}{p:RP}(h:Iv n p.1 p.2):Iv n (lg n p).1 (lg n p).2:=by
 have g:∀{r s:List Int},Iv n r s->∀t,t<n->0<=aa (fl n r.reverse) t/\aa (fl n r.reverse) t<n/\aa (fl n s.reverse) (aa (fl n r.reverse) t).toNat=t:=fun{r s} h t ht=>by
  obtain⟨a,b,c⟩:=h.rs (n-1-t) (by omega)
  rw[bM h.lr ht]
  refine⟨by omega,by omega,?_⟩
  rw[bM h.ls (by omega),show n-1-((n:Int)-1-aa r (n-1-t)).toNat=(aa r (n-1-t)).toNat by omega,c]
  omega
 exact⟨b7 h.lr,b7 h.ls,g h,g h.symm⟩
theorem Fl{n:Nat}{p:RP}(h:Iv n p.1 p.2):lg n (lg n p)=p:=by
 have g:∀{l:List Int},l.length=n->fl n (fl n l.reverse).reverse=l:=fun{l} hl=>aT (by rw[b7 (b7 hl),hl]) fun t ht=>by
  rw[b7 (b7 hl)]at ht
  rw[bM (b7 hl) ht,bM hl (by omega),show n-1-(n-1-t)=t by omega]
  omega
 exact Prod.ext (g h.lr) (g h.ls)
theorem Fo{n:Nat}{l:List Int}(hl:l.length=n){j:Nat}(hj:j+1<n):fl n (dA l j).reverse=dA (fl n l.reverse) (n-2-j):=by
 have h1:(dA l j).length=n:=by rw[fE,hl]
 refine aT (by rw[b7 h1,fE,b7 hl]) fun t ht=>?_
 rw[b7 h1]at ht
 rw[bM h1 ht,g9 _ _ (by rw[hl];exact hj),g9 _ _ (by rw[b7 hl];omega),bM hl (by omega),bM hl (by omega),bM hl ht]
 by_cases c:t=n-2-j
 ·rw[if_pos c,if_neg (by omega),if_pos (by omega),show n-1-(n-2-j+1)=j by omega]
 ·rw[if_neg c]
  by_cases d:t=n-2-j+1
  ·rw[if_pos d,if_pos (by omega),show n-1-(n-2-j)=j+1 by omega]
  ·rw[if_neg d,if_neg (by omega),if_neg (by omega)]
theorem Fp{n:Nat}{l:List Int}(hl:l.length=n)(hb:∀t,t<n->0<=aa l t/\aa l t<n){j:Nat}(hj:j+1<n):fl n (nR l j).reverse=nR (fl n l.reverse) (n-2-j):=by
 have h1:(nR l j).length=n:=by rw[r9,hl]
 refine aT (by rw[b7 h1,r9,b7 hl]) fun t ht=>?_
 rw[b7 h1]at ht
 have:=hb (n-1-t) (by omega)
 rw[bM h1 ht,aU (by rw[hl];omega),aU (by rw[b7 hl];exact ht),bM hl ht]
 unfold sg
 repeat' split
 all_goals omega
theorem Ny{n:Nat}{p:RP}(h:Iv n p.1 p.2){j:Nat}(hj:j+1<n):lg n (o4 p j)=o4 (lg n p) (n-2-j):=
 Prod.ext (Fo h.lr hj) (Fp h.ls (fun t ht=>⟨(h.sr t ht).1,(h.sr t ht).2.1⟩) hj)
theorem Nz{n:Nat}{p:RP}(h:Iv n p.1 p.2){j:Nat}(hj:j+1<n):lg n (rm p j)=rm (lg n p) (n-2-j):=
 Prod.ext (Fp h.lr (fun t ht=>⟨(h.rs t ht).1,(h.rs t ht).2.1⟩) hj) (Fo h.ls hj)
theorem aX.lg {n:Nat}{L:List RP}(h:aX n L):aX n (L.map (DL.lg n)):=fun x hx=>by
 obtain⟨y,hy,rfl⟩:=mem_map.mp hx
 exact uG (h y hy)
theorem vk.lg {n:Nat}{L L':List RP}(h:vk n L L'):aX n L->vk n (L.map (DL.lg n)) (L'.map (DL.lg n)):=by
 induction h with
 | @here p q B j hj h1 h2=>
  intro hI
  have ip:=hI p (by simp)
  have iq:=hI q (by simp)
  simp -implicitDefEqProofs only [map_cons]
  rw[Ny ip hj,Nz iq hj]
  refine .here (by omega) ?_ ?_
  ·show aa (fl n p.1.reverse) (n-2-j)<aa (fl n p.1.reverse) (n-2-j+1)
   rw[bM ip.lr (by omega),bM ip.lr (by omega),show n-1-(n-2-j)=j+1 by omega,show n-1-(n-2-j+1)=j by omega]
   omega
  ·show aa (fl n q.2.reverse) (n-2-j+1)<aa (fl n q.2.reverse) (n-2-j)
   rw[bM iq.ls (by omega),bM iq.ls (by omega),show n-1-(n-2-j)=j+1 by omega,show n-1-(n-2-j+1)=j by omega]
   omega
 |next _ ih=>
  intro hI
  exact .next (ih fun y hy=>hI y (by simp[hy]))
theorem kR.lg {n:Nat}{L L':List RP}(h:kR n L L'):aX n L->kR n (L.map (DL.lg n)) (L'.map (DL.lg n)):=by
 induction h with
 |nil=>exact fun _=>.nil _
 |cons s _ ih=>exact fun hI=>.cons (s.lg hI) (ih (s.iv hI))
theorem Kx(n:Nat):lg n (dW n)=dW n:=by
 have:fl n (upTo n).reverse.reverse=(upTo n).reverse:=aT (by rw[b7 (by rw[length_reverse,ai]),length_reverse,ai]) fun t ht=>by
  rw[b7 (by rw[length_reverse,ai])]at ht
  rw[bM (by rw[length_reverse,ai]) ht,du (by omega),du ht]
  omega
 exact Prod.ext this this
theorem NB(n:Nat):lg n (Zr n)=Zr n:=by
 have:fl n (upTo n).reverse=upTo n:=aT (by rw[b7 (ai n),ai]) fun t ht=>by
  rw[b7 (ai n)]at ht
  rw[bM (ai n) ht,ao (by omega),ao ht]
  omega
 exact Prod.ext this this
theorem Ky{n:Nat}(hn:n<=7)(h2:2<=n)(h:Int){L B:List RP}(hI:aX n L)(hB:aX n B)(d:Int):Vl n (h+d) (L.map (lg n)++B)=Vl n ((Vl n h L).1+d) ((Vl n h L).2.map (lg n)++B):=by
 obtain⟨m,k,e,hT,s⟩:=P7 hn h hI
 have s2:=s.lg hI
 simp -implicitDefEqProofs only [map_append,List.map_replicate,Kx,NB]at s2
 rw[e,z8 hn _ (hI.lg.app hB) (s2.Nt B),List.append_assoc,List.append_assoc,uF hn h2 (aX.app hT.lg (aX.app (.rep (bZ n) k) hB)),show h+d+(m:Int)=h+m+d by omega]
 exact Fj hn _ hT.lg hB k
theorem DH{n:Nat}{p q:RP}(h:Iv n p.1 p.2)(g:Iv n q.1 q.2)(e:∀t,t<n->aa p.2 t=aa q.2 t):p=q:=by
 have e2:p.2=q.2:=aT (by rw[h.ls,g.ls]) fun t ht=>e t (by rw[h.ls]at ht;exact ht)
 refine jS h g (Iv.uniq (n:=n) (s:=q.2) ?_ g)
 rw[<-e2]
 exact h
theorem vG.all {n:Nat}{p q p' c' y:RP}(o:vG n p q p' c' y)(ip:Iv n p.1 p.2){t:Nat}(ht:t<n):aa c'.2 (aa p'.2 t).toNat=aa q.2 (aa p.2 t).toNat:=by
 have:=ip.sr t ht
 rw[o.pp t ht,o.pq _ (by omega)]
theorem B6{n:Nat}(hn:n<=7){p q:RP}(ip:Iv n p.1 p.2)(iq:Iv n q.1 q.2)(hd:∀t,t<n->aa q.2 (aa p.2 t).toNat=(n:Int)-1-t):cF 50 p q=(dW n,Zr n):=by
 have s:=gq hn ip iq (bZ n)
 obtain⟨y,o⟩:=s.ex
 have hp:(cF 50 p q).1=dW n:=jS s.ip (om n) (ux s.ip fun j hj=>by
  obtain⟨a1,a2,a3⟩:=s.ip.rs j (by omega)
  obtain⟨b1,b2,b3⟩:=s.ip.rs (j+1) hj
  have e1:=o.all ip (t:=(aa (cF 50 p q).1.1 j).toNat) (by omega)
  have e2:=o.all ip (t:=(aa (cF 50 p q).1.1 (j+1)).toNat) (by omega)
  rw[a3,toNat_natCast,hd _ (by omega)]at e1
  rw[b3,toNat_natCast,hd _ (by omega)]at e2
  refine byContradiction fun hc=>?_
  have hne:aa (cF 50 p q).1.1 j≠aa (cF 50 p q).1.1 (j+1):=fun z=>by rw[z,b3]at a3;omega
  have:=(cO s.ip s.ic).mp s.fr j hj (by omega)
  omega)
 refine Prod.ext hp (DH s.ic (bZ n) fun t ht=>?_)
 have e:=o.all ip (t:=n-1-t) (by omega)
 rw[hp,hd _ (by omega)]at e
 change aa (cF 50 p q).2.2 (aa (upTo n).reverse (n-1-t)).toNat=_ at e
 rw[du (by omega),show((n:Int)-1-((n-1-t:Nat):Int)).toNat=t by omega]at e
 show _=aa (upTo n) t
 rw[ao ht,e]
 omega
theorem Kz{n:Nat}(hn:n<=7){c:RP}(ic:Iv n c.1 c.2):cF 50 c (dW n)=(dW n,lg n c):=by
 have s:=gq hn ic (om n) (bZ n)
 obtain⟨y,o⟩:=s.ex
 have hd:∀t,t<n->aa (cF 50 c (dW n)).2.2 (aa (cF 50 c (dW n)).1.2 t).toNat=(n:Int)-1-aa c.2 t:=fun t ht=>by
  have:=ic.sr t ht
  rw[o.all ic ht]
  show aa (upTo n).reverse _=_
  rw[du (by omega)]
  omega
 have hp:(cF 50 c (dW n)).1=dW n:=jS s.ip (om n) (ux s.ip fun j hj=>by
  obtain⟨a1,a2,a3⟩:=s.ip.rs j (by omega)
  obtain⟨b1,b2,b3⟩:=s.ip.rs (j+1) hj
  have e1:=hd (aa (cF 50 c (dW n)).1.1 j).toNat (by omega)
  have e2:=hd (aa (cF 50 c (dW n)).1.1 (j+1)).toNat (by omega)
  rw[a3,toNat_natCast]at e1
  rw[b3,toNat_natCast]at e2
  refine byContradiction fun hc=>?_
  have hne:aa (cF 50 c (dW n)).1.1 j≠aa (cF 50 c (dW n)).1.1 (j+1):=fun z=>by rw[z,b3]at a3;omega
  have h3:¬aa (cF 50 c (dW n)).2.2 (j+1)<aa (cF 50 c (dW n)).2.2 j:=fun z=>by
   have:=(cO s.ip s.ic).mp s.fr j hj z
   omega
  generalize hs1:(aa (cF 50 c (dW n)).1.1 j).toNat=s1 at*
  generalize hs2:(aa (cF 50 c (dW n)).1.1 (j+1)).toNat=s2 at*
  obtain⟨u1,u2,u3⟩:=ic.sr s1 (by omega)
  obtain⟨v1,v2,v3⟩:=ic.sr s2 (by omega)
  have agO:aa c.2 s1≠aa c.2 s2:=fun z=>by rw[z,v3]at u3;omega
  have p1:=o.pp s1 (by omega)
  have p2:=o.pp s2 (by omega)
  rw[a3]at p1
  rw[b3]at p2
  have:=o.ap (aa c.2 s2).toNat (aa c.2 s1).toNat (by omega) (by omega) (by omega)
  rw[u3,v3]at this
  omega)
 refine Prod.ext hp (DH s.ic (uG ic) fun t ht=>?_)
 have e:=hd (n-1-t) (by omega)
 rw[hp]at e
 change aa (cF 50 c (dW n)).2.2 (aa (upTo n).reverse (n-1-t)).toNat=_ at e
 rw[du (by omega),show((n:Int)-1-((n-1-t:Nat):Int)).toNat=t by omega]at e
 rw[e]
 exact(bM ic.ls ht).symm
theorem Fq{n:Nat}(hn:n<=7):∀(L:List RP),aX n L->kR n (L++[dW n]) (dW n::L.map (lg n))
 |[],_=>.nil _
 |c::L,hI=>by
  have ic:=hI c (by simp)
  have r:=(rn (n:=n) 50 c (dW n) ic (om n)).UC (L.map (lg n))
  rw[Kz hn ic]at r
  exact((Fq hn L fun y hy=>hI y (by simp[hy])).next c).trans r
def LC(n:Nat)(r:RP):RP:=(fl n r.2,r.1.reverse)
theorem P8{n:Nat}{r:RP}(h:Iv n r.1 r.2){t:Nat}(ht:t<n):aa (LC n r).1 t=(n:Int)-1-aa r.2 t:=B5 (by rw[h.ls];exact ht)
theorem Ft{n:Nat}{r:RP}(h:Iv n r.1 r.2){t:Nat}(ht:t<n):aa (LC n r).2 t=aa r.1 (n-1-t):=by
 show aa r.1.reverse t=_
 rw[z6 (by rw[h.lr];exact ht),h.lr]
theorem p6{n:Nat}{r:RP}(h:Iv n r.1 r.2):Iv n (LC n r).1 (LC n r).2:=by
 refine⟨by show(fl n r.2).length=n;unfold fl;rw[length_map,h.ls],by show r.1.reverse.length=n;rw[length_reverse,h.lr],fun t ht=>?_,fun t ht=>?_⟩
 ·obtain⟨a,b,c⟩:=h.sr t ht
  rw[P8 h ht]
  refine⟨by omega,by omega,?_⟩
  rw[Ft h (by omega),show n-1-((n:Int)-1-aa r.2 t).toNat=(aa r.2 t).toNat by omega,c]
 ·obtain⟨a,b,c⟩:=h.rs (n-1-t) (by omega)
  rw[Ft h ht]
  refine⟨a,b,?_⟩
  rw[P8 h (by omega),c]
  omega
theorem KA{n:Nat}(hn:n<=7){r:RP}(h:Iv n r.1 r.2):cF 50 (LC n r) r=(dW n,Zr n):=B6 hn (p6 h) h fun t ht=>by
 rw[Ft h ht,(h.rs (n-1-t) (by omega)).2.2]
 omega
theorem KC{n:Nat}(hn:n<=7){r:RP}(h:Iv n r.1 r.2):cF 50 (lg n r) (LC n r)=(dW n,Zr n):=B6 hn (uG h) (p6 h) fun t ht=>by
 have e:aa (lg n r).2 t=(n:Int)-1-aa r.2 (n-1-t):=bM h.ls ht
 obtain⟨a,b,c⟩:=h.sr (n-1-t) (by omega)
 rw[e,Ft h (by omega),show n-1-((n:Int)-1-aa r.2 (n-1-t)).toNat=(aa r.2 (n-1-t)).toNat by omega,c]
 omega
def Pa(n:Nat)(c:RP)(ω:Int×List RP):Int×List RP:=Vl n ω.1 (ω.2++[c])
def Ma(n:Nat)(r:RP)(ω:Int×List RP):Int×List RP:=Vl n (ω.1+ -1) (ω.2.map (lg n)++[LC n r])
structure Cv(n:Nat)(ω:Int×List RP):Prop where
 iv:aX n ω.2
 id:Vl n ω.1 ω.2=ω
theorem KD{n:Nat}(hn:n<=7)(h:Int){L:List RP}(hI:aX n L):Cv n (Vl n h L):=by
 obtain⟨k,s,g⟩:=oi hn hI
 have g2:=qk.drop (dB n (qv n L)) g
 have e:qv n (Vl n h L).2=(Vl n h L).2:=DF (k:=0) hn g2.iv g2 (by rw[replicate_zero,append_nil];exact .nil _)
 have c:dB n (Vl n h L).2=0:=by
  have hd:=BI (n:=n) (qv n L)
  show dB n ((qv n L).drop (dB n (qv n L)))=0
  cases e:(qv n L).drop (dB n (qv n L))with
  |nil=>rfl
  |cons p B=>
   unfold dB
   rw[List.takeWhile_cons_of_neg (by simpa using hd p B e)]
   rfl
 refine⟨g2.iv,?_⟩
 generalize Vl n h L=ω at e c
 show(ω.1+((dB n (qv n ω.2):Nat):Int),(qv n ω.2).drop (dB n (qv n ω.2)))=ω
 rw[e,c]
 exact Prod.ext (by show ω.1+((0:Nat):Int)=_;omega) rfl
section
variable{n:Nat}(hn:n<=7)(h2:2<=n)
include hn h2
theorem KG(h:Int){L:List RP}(hI:aX n L){c:RP}(ic:Iv n c.1 c.2):Vl n h (L++[c])=Pa n c (Vl n h L):=Kv hn h2 h hI (.one ic)
theorem Xl(h:Int){L:List RP}(hI:aX n L){r:RP}(ir:Iv n r.1 r.2):Vl n (h+ -1) (L.map (lg n)++[LC n r])=Ma n r (Vl n h L):=Ky hn h2 h hI (.one (p6 ir)) (-1)
theorem Xm{ω:Int×List RP}(hc:Cv n ω){c:RP}(ic:Iv n c.1 c.2):Cv n (Pa n c ω):=KD hn _ (hc.iv.app (.one ic))
theorem Xn{ω:Int×List RP}(hc:Cv n ω){r:RP}(ir:Iv n r.1 r.2):Cv n (Ma n r ω):=KD hn _ (hc.iv.lg.app (.one (p6 ir)))
theorem Fv{ω:Int×List RP}(hc:Cv n ω){p q:RP}(ip:Iv n p.1 p.2)(iq:Iv n q.1 q.2)(e:cF 50 p q=(dW n,Zr n)):Vl n (ω.1+ -1) (ω.2.map (lg n)++[p,q])=ω:=by
 have r:=(rn (n:=n) 50 p q ip iq).UC []
 rw[e]at r
 have s2:=(Fq hn (ω.2.map (lg n)) hc.iv.lg).Nt [Zr n]
 rw[List.append_assoc]at s2
 have hf:(ω.2.map (lg n)).map (lg n)=ω.2:=by
  rw[map_map]
  conv=>rhs;rw[<-map_id ω.2]
  exact map_congr_left fun x hx=>Fl (hc.iv x hx)
 rw[hf]at s2
 rw[z8 hn _ (hc.iv.lg.app (.cons ip (.one iq))) ((kR.app _ r).trans s2),cons_append,z7 hn h2 _ (hc.iv.app (.one (bZ n))),show ω.1+ -1+1=ω.1 by omega]
 have:=DG (A:=ω.2) (B:=[]) hn ω.1 hc.iv (fun x hx=>nomatch hx)
 rw[this,append_nil]
 exact hc.id
theorem P9{ω:Int×List RP}(hc:Cv n ω){r:RP}(ir:Iv n r.1 r.2):Ma n r (Pa n r ω)=ω:=by
 have e:Pa n r ω=Vl n ω.1 (ω.2++[r]):=rfl
 rw[e,<-Xl hn h2 ω.1 (hc.iv.app (.one ir)) ir,map_append,List.append_assoc]
 exact Fv hn h2 hc (uG ir) (p6 ir) (KC hn ir)
theorem Xo{ω:Int×List RP}(hc:Cv n ω){r:RP}(ir:Iv n r.1 r.2):Pa n r (Ma n r ω)=ω:=by
 have e:Ma n r ω=Vl n (ω.1+ -1) (ω.2.map (lg n)++[LC n r]):=rfl
 rw[e,<-KG hn h2 _ (hc.iv.lg.app (.one (p6 ir))) ir,List.append_assoc]
 exact Fv hn h2 hc (p6 ir) ir (KA hn ir)
end
def Xr(n a:Nat):RP:=o4 (Zr n) a
theorem xK{n a:Nat}(h:a+1<n):Iv n (Xr n a).1 (Xr n a).2:=dS (p:=Zr n) (bZ n) h
theorem TF{n a:Nat}(h:a+1<n):rm (Xr n a) a=Zr n:=by
 have iz:Iv n (Zr n).1 (Zr n).2:=bZ n
 refine DH (dU (xK h) h) iz fun t ht=>?_
 show aa (dA (nR (upTo n) a) a) t=aa (upTo n) t
 rw[cX (by rw[r9,ai];exact h),aU (by rw[ai];exact xu h ht),ao (xu h ht),ao ht]
 unfold sw sg
 repeat' split
 all_goals omega
theorem Xp{n a:Nat}(h:a+1<n):aa (Xr n a).2 (a+1)<aa (Xr n a).2 a:=by
 show aa (nR (upTo n) a) (a+1)<aa (nR (upTo n) a) a
 rw[aU (by rw[ai];exact h),aU (by rw[ai];omega),ao h,ao (by omega)]
 unfold sg
 repeat' split
 all_goals omega
theorem TH{n:Nat}(hn:n<=7)(h2:2<=n){ω:Int×List RP}(hc:Cv n ω){c:RP}(ic:Iv n c.1 c.2){a:Nat}(ha:a+1<n)(hu:aa c.1 a<aa c.1 (a+1)):Pa n (Xr n a) (Pa n c ω)=Pa n (o4 c a) ω:=by
 have e:Pa n c ω=Vl n ω.1 (ω.2++[c]):=rfl
 rw[e,<-KG hn h2 ω.1 (hc.iv.app (.one ic)) (xK ha),List.append_assoc]
 have s:kR n [c,Xr n a] [o4 c a,Zr n]:=by
  have:=vk.here (B:=[]) ha hu (Xp ha)
  rw[TF ha]at this
  exact .cons this (.nil _)
 rw[show[c]++[Xr n a]=[c,Xr n a]from rfl,z8 hn ω.1 (hc.iv.app (.cons ic (.one (xK ha)))) (kR.app ω.2 s)]
 have:=DG (A:=ω.2++[o4 c a]) (B:=[]) hn ω.1 (hc.iv.app (.one (dS ic ha))) (fun x hx=>nomatch hx)
 rw[List.append_assoc,append_nil]at this
 exact this
theorem Qa(n:Nat)(f:Nat->Nat):S n (fun i=>f (n-1-i))=S n f:=by
 induction n with
 |zero=>rfl
 |succ n ih=>
  rw[Ey,jH,<-ih]
  rw[show n+1-1-0=n by omega,Nat.add_comm]
  congr 1
  exact gk fun i _=>by rw[show n+1-1-(i+1)=n-1-i by omega]
def T2(n:Nat):Nat:=S n fun q=>S n fun p=>if p<q then 1 else 0
theorem DI{n:Nat}{r s:List Int}(h:Iv n r s):gm (fl n s)+gm s=T2 n:=by
 rw[yS,yS,oh,h.ls,<-Bw]
 unfold T2
 refine gk fun q hq=>?_
 rw[<-Bw]
 refine gk fun p hp=>?_
 by_cases hpq:p<q
 ·rw[if_pos hpq,if_pos hpq,if_pos hpq,sS (by rw[h.ls];exact hq),sS (by rw[h.ls];exact hp)]
  have hne:aa s p≠aa s q:=fun z=>by
   have:=h.Hw hp hq z
   omega
  repeat' split
  all_goals omega
 ·rw[if_neg hpq,if_neg hpq,if_neg hpq]
theorem Fw{n:Nat}{r s:List Int}(h:Iv n r s):gm s.reverse+gm s=T2 n:=by
 have e1:gm s.reverse=S n fun q=>S n fun p=>if p<q then(if aa s p<aa s q then 1 else 0)else 0:=by
  rw[yS,length_reverse,h.ls,JB n n fun q p=>if p<q then(if aa s p<aa s q then 1 else 0)else 0,<-Qa n fun p=>S n fun q=>if p<q then(if aa s p<aa s q then 1 else 0)else 0]
  refine gk fun q hq=>?_
  rw[<-Qa n fun q_1=>if n-1-q<q_1 then(if aa s (n-1-q)<aa s q_1 then 1 else 0)else 0]
  refine gk fun p hp=>?_
  rw[fu (by rw[h.ls];exact hq),fu (by rw[h.ls];exact hp),h.ls]
  by_cases hpq:p<q
  ·have hq2:n-1-q<n-1-p:=by omega
   rw[if_pos hpq,if_pos hq2]
  ·have hq2:¬n-1-q<n-1-p:=by omega
   rw[if_neg hpq,if_neg hq2]
 rw[e1,yS,h.ls,<-Bw]
 unfold T2
 refine gk fun q hq=>?_
 rw[<-Bw]
 refine gk fun p hp=>?_
 by_cases hpq:p<q
 ·rw[if_pos hpq,if_pos hpq,if_pos hpq]
  have hne:aa s p≠aa s q:=fun z=>by
   have:=h.Hw hp hq z
   omega
  repeat' split
  all_goals omega
 ·rw[if_neg hpq,if_neg hpq,if_neg hpq]
def LD(k:Int):Int:=if 0<k then 1 else-1
def uH(w:List Int):Int:=(w.map LD).sum
theorem z9(a b:List Int):uH (a++b)=uH a+uH b:=by unfold uH;rw[map_append,sum_append]
def lj(h:Int)(o:List Int):List Int:=if h%2=0 then o else o.reverse
theorem B7(h:Int)(o:List Int):(lj h o).length=o.length:=by unfold lj;split<;>simp
theorem fJ(o r:List Int):(cmp o r).length=r.length:=by unfold cmp;exact length_map _
theorem Fx:∀(w o:List Int),(k9 w o).length=o.length
 |[],o=>rfl
 |k::w,o=>by
  show(k9 w (dA o _)).length=_
  rw[Fx w,fE]
theorem TJ{n:Nat}{o:List Int}(h:o.length=n):cmp o (upTo n)=o:=by
 refine aT (by rw[fJ,ai,h]) fun t ht=>?_
 rw[fJ,ai]at ht
 rw[di (by rw[ai];exact ht),ao ht,toNat_natCast]
theorem Fy{n:Nat}{o:List Int}(h:o.length=n)(w:List Int):k9 w o=cmp o (k9 w (upTo n)):=by
 conv=>lhs;rw[<-TJ h]
 unfold cmp
 exact zZ _ w _
theorem sV(a b o:List Int):k9 (a++b) o=k9 b (k9 a o):=foldl_append
theorem TN{n:Nat}{o r s:List Int}(h:o.length=n)(i:Iv n r s):cmp o.reverse (fl n s)=cmp o s:=by
 refine aT (by rw[fJ,fJ,oh]) fun t ht=>?_
 rw[fJ,oh,i.ls]at ht
 obtain⟨a1,a2,_⟩:=i.sr t ht
 rw[di (by rw[oh,i.ls];exact ht),di (by rw[i.ls];exact ht),sS (by rw[i.ls];exact ht),fu (by rw[h];omega),h]
 congr 1
 omega
theorem KH{n:Nat}{r s:List Int}(h:Iv n r s)(hr:Iv n r.reverse (tH r.reverse)):gm (fl n r.reverse)=gm r:=by
 have e1:=DI hr.symm
 have e2:=Fw h.symm
 omega
theorem B8{n:Nat}{o r s:List Int}(h:o.length=n)(i:Iv n r s):cmp o.reverse (fl n r.reverse)=(cmp o r).reverse:=by
 refine aT (by rw[fJ,oh,length_reverse,length_reverse,fJ]) fun t ht=>?_
 rw[fJ,oh,length_reverse,i.lr]at ht
 obtain⟨a1,a2,_⟩:=i.rs (n-1-t) (by omega)
 have e1:aa r.reverse t=aa r (n-1-t):=by rw[fu (by rw[i.lr];exact ht),i.lr]
 have e2:aa (cmp o r).reverse t=aa (cmp o r) (n-1-t):=by rw[fu (by rw[fJ,i.lr];exact ht),fJ,i.lr]
 rw[di (by rw[oh,length_reverse,i.lr];exact ht),sS (by rw[length_reverse,i.lr];exact ht),e1,e2,fu (by rw[h];omega),h,di (by rw[i.lr];omega)]
 congr 1
 omega
def jU(n:Nat)(h:Int)(r:List Int):List Int:=if h%2=0 then r else fl n r.reverse
theorem GY{n:Nat}(h:Int){r:List Int}(hr:aP n r):aP n (jU n h r):=by
 unfold jU
 split
 ·exact hr
 ·exact Km (Fb hr)
theorem GZ{n:Nat}(h:Int){r:List Int}(hr:aP n r):gm (jU n h r)=gm r:=by
 unfold jU
 split
 ·rfl
 ·exact KH (hU hr) (hU (Fb hr))
theorem G0{n:Nat}(h g:Int){o r:List Int}(ho:o.length=n)(hr:aP n r):cmp (lj (g+h) o) (jU n h r)=lj h (cmp (lj g o) r):=by
 unfold jU lj
 by_cases c:h%2=0
 ·rw[if_pos c,if_pos c]
  by_cases d:g%2=0
  ·rw[if_pos d,if_pos (by omega)]
  ·rw[if_neg d,if_neg (by omega)]
 ·rw[if_neg c,if_neg c]
  by_cases d:g%2=0
  ·rw[if_pos d,if_neg (by omega),B8 ho (hU hr)]
  ·rw[if_neg d,if_pos (by omega)]
   have:=B8 (o:=o.reverse) (by rw[length_reverse];exact ho) (hU hr)
   rw[reverse_reverse]at this
   exact this
abbrev hS(qs:List (Int×List Int)):Int:=(qs.map (·.1)).sum
def cV(n:Nat):List (Int×List Int)->List (List Int)
 |[]=>[]
 |q::qs=>jU n (hS qs) q.2::cV n qs
def KI(o:List Int)(qs:List (Int×List Int)):List Int:=qs.foldl (fun o q=>cmp (lj q.1 o) q.2) o
theorem uI(n:Nat):∀qs,(cV n qs).length=qs.length
 |[]=>rfl
 |q::qs=>by show(cV n qs).length+1=_;rw[uI n qs];rfl
theorem yZ{n:Nat}:∀(qs:List (Int×List Int)),(∀q∈qs,aP n q.2)->∀r∈cV n qs,aP n r
 |[],_,r,hr=>nomatch hr
 |q::qs,h,r,hr=>by
  rcases mem_cons.mp hr with rfl|hr
  ·exact GY _ (h q (by simp))
  ·exact yZ qs (fun x hx=>h x (by simp[hx])) r hr
theorem y0{n:Nat}:∀(qs:List (Int×List Int))(o:List Int),(∀q∈qs,aP n q.2)->o.length=n->yq (lj (hS qs) o) (cV n qs)=KI o qs
 |[],o,_,_=>by
  show lj 0 o=o
  rfl
 |q::qs,o,h,ho=>by
  have hq:=h q (by simp)
  have ih:=y0 qs (cmp (lj q.1 o) q.2) (fun x hx=>h x (by simp[hx])) (by rw[fJ,hq.len])
  show yq (cmp (lj (hS (q::qs)) o) (jU n (hS qs) q.2)) (cV n qs)=KI (cmp (lj q.1 o) q.2) qs
  rw[<-ih,show hS (q::qs)=q.1+hS qs from rfl,G0 _ _ ho hq]
theorem y4{n:Nat}:∀(qs:List (Int×List Int)),(∀q∈qs,aP n q.2)->ki (cV n qs)=ki (qs.map (·.2))
 |[],_=>rfl
 |q::qs,h=>by
  have ih:=y4 qs fun x hx=>h x (by simp[hx])
  have e:∀(r:List Int)(R:List (List Int)),ki (r::R)=gm r+ki R:=fun r R=>by unfold ki;rw[map_cons,sum_cons]
  show ki (jU n (hS qs) q.2::cV n qs)=ki (q.2::qs.map (·.2))
  rw[e,e,ih,GZ _ (h q (by simp))]
abbrev oN(k:Int):Int:=if k<0 then-k else k
theorem KJ{n:Nat}{k:Int}(h:iH n k):∃a:Nat,oN k=(a:Int)+1/\a+1<n:=by
 unfold iH at h
 unfold oN
 split
 ·exact⟨(-k-1).toNat,by omega,by omega⟩
 ·exact⟨(k-1).toNat,by omega,by omega⟩
theorem KN{n:Nat}{p:List Int}(h:∀k∈p,iH n k):Ps n (p.map oN):=fun k hk=>by
 obtain⟨x,hx,rfl⟩:=mem_map.mp hk
 exact KJ (h x hx)
theorem KO(a b:Bool):Av (.bl a) (.bl b)=some (.bl (!(a==b))):=rfl
theorem ND:Em []=some []:=rfl
theorem B9{α:Type}(l:List α)(x y:α):(l++[x]).set l.length y=l++[y]:=by simp
structure Gp(n:Nat)(p:List Int):Prop where
 ne:p≠[]
 x:∀k∈p,iH n k
 sg:(∀k∈p,0<k)\/∀k∈p,k<0
 le:∃z,b9 (p.map oN) (upTo n)=some z
def Mx(n:Nat):List (List Int)->Prop
 |p::q::B=>(∀k q',q=k::q'->¬Gp n (p++[k]))/\Mx n (q::B)
 |_=>True
theorem Mx.snoc {n:Nat}{k:Int}:∀{A:List (List Int)}{p:List Int},Mx n (A++[p])->¬Gp n (p++[k])->Mx n (A++[p]++[[k]])
 |[],p,_,h=>⟨fun x q e=>by cases e;exact h,trivial⟩
 |[a],p,g,h=>⟨g.1,fun x q e=>by cases e;exact h,trivial⟩
 |a::b::A,p,g,h=>⟨g.1,Mx.snoc (A:=b::A) g.2 h⟩
theorem Mx.last {n:Nat}{k:Int}:∀{A:List (List Int)}{p:List Int},p≠[]->Mx n (A++[p])->Mx n (A++[p++[k]])
 |[],p,_,_=>trivial
 |[a],p,hp,g=>⟨fun x q e=>by
  cases p with
  |nil=>exact absurd rfl hp
  |cons y p=>cases e;exact g.1 _ _ rfl,trivial⟩
 |a::b::A,p,hp,g=>⟨g.1,Mx.last (A:=b::A) hp g.2⟩
structure TQ(n i:Nat)(u:List Int)(gV:List (List Int))(o:List Int)(s:Bool):Prop where
 len:gV.length<=i
 lo:o.length=n
 good:∀p∈gV,Gp n p/\p.length<=i
 fla:gV.flatten=u
 mx:Mx n gV
 last:gV=[]\/∃ini cur,gV=ini++[cur]/\(∀k∈cur,s=decide (0<k))/\b9 (cur.map oN) (upTo n)=some o
theorem wu{i:Nat}{env:DE}{a v:Int}{l:List Int}(h:0<=a)(h2:a<l.length):yj i env (.int v) (aA l) (.int a)=.ok (.nx (env.set i (.own (aA (l.set a.toNat v))))):=by
 rw[rP h (by rw[aR];exact h2)]
 unfold aA
 rw[map_set]
theorem Fz{l:List Int}{a:Nat}(h:a+1<l.length):(l.set (a+1) (aa l a)).set a (aa l (a+1))=dA l a:=by
 refine aT (by rw[length_set,length_set,fE]) fun j hj=>?_
 rw[length_set,length_set]at hj
 rw[pK (by rw[length_set];exact hj),pK hj,g9 _ _ h]
 repeat' split
 all_goals first|rfl|omega|(subst_vars;rfl)
theorem TR{n i:Nat}(hn:n<=7)(hi:i<1000){gV:List (List Int)}{o:List Int}{s:Bool}{u:List Int}(J:TQ n i u gV o s){k:Int}(hk:iH n k)(s1 s5 s6 s7:Sl):
  ∃Xq o' s' t5 t6 t7,pH (.int k) [.val (.int n),s1,.deep (.ls gV),.own (aA o),.val (.bl s),s5,s6,s7]=.ok (.nx [.val (.int n),s1,.deep (.ls Xq),.own (aA o'),.val (.bl s'),t5,t6,t7])/\TQ n (i+1) (u++[k]) Xq o' s':=by
 obtain⟨a,ea,ha⟩:=KJ hk
 have lo:=J.lo
 have hlen:=J.len
 have at1:ju (aA o) ((a:Int)+1-1)=some (.int (aa o a)):=by rw[eI (by omega) (by omega),show((a:Int)+1-1).toNat=a by omega]
 have at2:ju (aA o) ((a:Int)+1)=some (.int (aa o (a+1))):=by rw[eI (by omega) (by omega),show((a:Int)+1).toNat=a+1 by omega]
 have ku:ju (aA (upTo n)) ((a:Int)+1-1)=some (.int (aa (upTo n) a)):=by rw[eI (by omega) (by rw[ai];omega),show((a:Int)+1-1).toNat=a by omega]
 have ku2:ju (aA (upTo n)) ((a:Int)+1)=some (.int (aa (upTo n) (a+1))):=by rw[eI (by omega) (by rw[ai];omega),show((a:Int)+1).toNat=a+1 by omega]
 have hgk:Gp n [k]:=⟨by simp,fun x hx=>by rw[mem_singleton.mp hx];exact hk,by
  unfold iH at hk
  by_cases c:0<k
  ·exact .inl fun x hx=>by rw[mem_singleton.mp hx];exact c
  ·exact .inr fun x hx=>by rw[mem_singleton.mp hx];omega,⟨dA (upTo n) a,by
   show b9 [oN k] (upTo n)=_
   rw[ea,fH (n:=n),if_neg (by rw[ao (by omega),ao (by omega)];omega)]
   rfl⟩⟩
 have hkl:b9 [oN k] (upTo n)=some (dA (upTo n) a):=by
  rw[ea,fH (n:=n),if_neg (by rw[ao (by omega),ao (by omega)];omega)]
  rfl
 by_cases hnew:gV=[]\/s≠decide (0<k)\/aa o (a+1)<aa o a
 ·have hmx:Mx n (gV++[[k]]):=by
   rcases J.last with rfl|⟨ini,cur,rfl,hs,hl⟩
   ·trivial
   ·refine Mx.snoc J.mx fun gp=>?_
    obtain⟨gc,_⟩:=J.good cur (by simp)
    rcases hnew with h|h|h
    ·simp at h
    ·obtain⟨y,Xs,ec⟩:∃y Xs,cur=y::Xs:=by
      cases cur with
      |nil=>exact absurd rfl gc.ne
      |cons y c=>exact⟨y,c,rfl⟩
     have hy:=hs y (by rw[ec];simp)
     refine h ?_
     rw[hy]
     rcases gp.sg with z|z
     ·rw[decide_eq_true (z y (by rw[ec];simp)),decide_eq_true (z k (by simp))]
     ·have z1:=z y (by rw[ec];simp)
      have z2:=z k (by simp)
      rw[decide_eq_false (show¬0<y by omega),decide_eq_false (show¬0<k by omega)]
    ·obtain⟨q,hq⟩:=gp.le
     rw[map_append,map_cons,map_nil,uD,hl,ea]at hq
     have Hi:b9 [(a:Int)+1] o=some q:=hq
     rw[fH (n:=n),if_pos h]at Hi
     cases Hi
  refine⟨gV++[[k]],dA (upTo n) a,decide (0<k),.val (.int k),.val (.int ((a:Int)+1)),.val (.int (aa (upTo n) (a+1))),?_,⟨by simp;omega,by rw[fE,ai],fun p hp=>?_,by rw[flatten_append,J.fla];simp,hmx,.inr ⟨gV,[k],rfl,fun x hx=>by rw[mem_singleton.mp hx],hkl⟩⟩⟩
  ·have KP:(if(((gV.length:Nat):Int)==0)=true then R.ok true else if(!(s==decide (0<k)))=true then R.ok true else R.ok (decide (aa o (a+1)<aa o a)):R Bool)=.ok true:=by
    rcases hnew with h|h|h
    ·rw[if_pos (by rw[h];rfl)]
    ·split
     ·rfl
     ·rw[if_pos (by simpa using h)]
    ·rw[decide_eq_true h]
     repeat' split
     all_goals rfl
   unfold pH
   simp -implicitDefEqProofs only [fR,mS,mD,mF,eg,aG,reduceAdd,reduceSub,reduceEqDiff,reduceIte,aj,ak,aL,aM,aN,aO,Ko,KO,ea,at1,at2,length_map,KP,kP,kQ,ND]
   rw[Fd (by omega)]
   simp -implicitDefEqProofs only [reduceIte,aj,ak,aL,aM,aN,aO,kP,kQ,uE]
   rw[lV n hn]
   simp -implicitDefEqProofs only [reduceIte,aj,ak,aL,aM,aN,aO,kP,kQ,uE]
   rw[Fc (by simp)]
   simp -implicitDefEqProofs only [reduceIte,aj,ak,aL,aM,aN,aO,ku,ku2]
   rw[wu (by omega) (by rw[ai];omega)]
   simp -implicitDefEqProofs only [reduceIte,aj,ak,aL,aM,aN,aO]
   rw[wu (by omega) (by rw[length_set,ai];omega)]
   simp -implicitDefEqProofs only [reduceIte,aj,ak,aL,aM,aN,aO]
   rw[show((a:Int)+1).toNat=a+1 by omega,show((a:Int)+1-1).toNat=a by omega,Fz (by rw[ai];omega),B9]
  ·rcases mem_append.mp hp with h|h
   ·exact⟨(J.good p h).1,by have:=(J.good p h).2;omega⟩
   ·rw[mem_singleton.mp h]
    exact⟨hgk,by simp⟩
 ·have h1:gV≠[]:=fun z=>hnew (.inl z)
  have h2:s=decide (0<k):=byContradiction fun z=>hnew (.inr (.inl z))
  have h3:¬aa o (a+1)<aa o a:=fun z=>hnew (.inr (.inr z))
  obtain⟨ini,cur,rfl,hs,hl⟩:=J.last.resolve_left h1
  obtain⟨gc,gl⟩:=J.good cur (by simp)
  have Xu:b9 ((cur++[k]).map oN) (upTo n)=some (dA o a):=by
   rw[map_append,map_cons,map_nil,uD,hl,ea]
   show b9 [(a:Int)+1] o=_
   rw[fH (n:=n),if_neg h3]
   rfl
  refine⟨ini++[cur++[k]],dA o a,s,.val (.int k),.val (.int ((a:Int)+1)),.val (.int (aa o (a+1))),?_,⟨by simp at hlen⊢;omega,by rw[fE,lo],fun p hp=>?_,by have:=J.fla;rw[flatten_append]at this⊢;rw[<-this];simp,Mx.last gc.ne J.mx,.inr ⟨ini,cur++[k],rfl,fun x hx=>?_,Xu⟩⟩⟩
  ·have KP:(if((((ini++[cur]).length:Nat):Int)==0)=true then R.ok true else if(!(s==decide (0<k)))=true then R.ok true else R.ok (decide (aa o (a+1)<aa o a)):R Bool)=.ok false:=by
    rw[if_neg (by simp;omega),h2,if_neg (by simp),decide_eq_false h3]
   unfold pH
   simp -implicitDefEqProofs only [fR,reduceIte,aj,ak,aL,aM,aN,aO,Ko,KO,ea,at1,at2,length_map,KP,kP,kQ,uE]
   rw[Fc (by omega)]
   simp -implicitDefEqProofs only [reduceIte,aj,ak,aL,aM,aN,aO,at1,at2]
   rw[wu (by omega) (by omega)]
   simp -implicitDefEqProofs only [reduceIte,aj,ak,aL,aM,aN,aO]
   rw[wu (by omega) (by rw[length_set];omega)]
   simp -implicitDefEqProofs only [reduceIte,aj,ak,aL,aM,aN,aO]
   rw[show((a:Int)+1).toNat=a+1 by omega,show((a:Int)+1-1).toNat=a by omega,Fz (by omega),B9]
  ·rcases mem_append.mp hp with h|h
   ·exact⟨(J.good p (by simp[h])).1,by have:=(J.good p (by simp[h])).2;omega⟩
   ·rw[mem_singleton.mp h]
    refine⟨⟨by simp,fun x hx=>?_,?_,⟨_,Xu⟩⟩,by rw[length_append,length_singleton];omega⟩
    ·rcases mem_append.mp hx with q|q
     ·exact gc.x x q
     ·rw[mem_singleton.mp q];exact hk
    ·have QZ:=hk
     unfold iH at QZ
     by_cases c:0<k
     ·refine .inl fun x hx=>?_
      rcases mem_append.mp hx with q|q
      ·have:=hs x q
       rw[h2,decide_eq_true c]at this
       exact of_decide_eq_true this.symm
      ·rw[mem_singleton.mp q];exact c
     ·refine .inr fun x hx=>?_
      rcases mem_append.mp hx with q|q
      ·have:=hs x q
       rw[h2,decide_eq_false c]at this
       have:=of_decide_eq_false this.symm
       have:=(gc.x x q).1
       omega
      ·rw[mem_singleton.mp q];omega
  ·rcases mem_append.mp hx with q|q
   ·exact hs x q
   ·rw[mem_singleton.mp q];exact h2
theorem TU{n:Nat}(hn:n<=7){w:List Int}(hw:∀k∈w,iH n k)(hl:w.length<=1000):∃gV:List (List Int),Bt [.int n,.lst (aA w)]=.ok gV/\gV.flatten=w/\gV.length<=w.length/\(∀p∈gV,Gp n p/\p.length<=w.length)/\Mx n gV:=by
 unfold Bt Pj mT
 simp -implicitDefEqProofs only [mS,mD,mF,eg,aG,reduceAdd,reduceSub,reduceEqDiff,reduceIte,aj,ak,aL,aM,aN,aO]
 rw[lV n hn]
 simp -implicitDefEqProofs only [reduceIte,aj,ak,aL,aM,aN,aO]
 obtain⟨⟨gV,o,s,t5,t6,t7⟩,e,hj⟩:=ui (S:=List (List Int)×List Int×Bool×Sl×Sl×Sl) (b:=pH) (fun i q=>TQ n i (w.take i) q.1 q.2.1 q.2.2.1)
  (fun q=>[.val (.int n),.val (.lst (aA w)),.deep (.ls q.1),.own (aA q.2.1),.val (.bl q.2.2.1),q.2.2.2.1,q.2.2.2.2.1,q.2.2.2.2.2]) (aA w) 0 ([],upTo n,false,.no,.no,.no)
  ⟨Nat.le_refl _,ai n,(fun p hp=>nomatch hp),rfl,trivial,.inl rfl⟩ (by
   rintro j ⟨gV,o,s,t5,t6,t7⟩ x hs hx
   obtain⟨k,hk,rfl⟩:=Et hx
   have Tn:j<w.length:=(List.getElem?_eq_some_iff.mp hk).1
   obtain⟨p1,o1,s1,u5,u6,u7,e,hJ⟩:=TR hn (show 0+j<1000 by omega) hs (hw k (mem_of_getElem? hk)) (.val (.lst (aA w))) t5 t6 t7
   refine⟨(p1,o1,s1,u5,u6,u7),e,?_⟩
   rw[Nat.zero_add]at hJ⊢
   rw[Bm hk]
   exact hJ)
 dsimp only at e hj
 rw[e]
 rw[Nat.zero_add,aR]at hj
 simp -implicitDefEqProofs only [reduceIte,aj,ak,aL,aM,aN,aO,kP,kQ,Jg]
 exact⟨gV,rfl,by rw[hj.fla,take_length],hj.len,hj.good,hj.mx⟩
theorem y6(w:List Int)(hw:w.length<=1000):kq [.lst (aA w)]=.ok (aA (w.reverse.map fun k=> -k)):=by
 unfold kq Bq
 simp -implicitDefEqProofs only [mS,mD,mF,eg,aG,reduceAdd,reduceSub,reduceEqDiff,reduceIte,aj,ak,aL,aM,aN,aO,zG,fO]
 rw[kD (fun k=> -k) w.reverse fun k _=>⟨_,fR _ _ _,rfl,rfl⟩]
 simp -implicitDefEqProofs only [reduceIte,aj,ak,aL,aM,aN,aO,R.kC]
 rw[fz (by rw[length_map,length_reverse];omega)]
 simp -implicitDefEqProofs only [reduceIte,aj,ak,aL,aM,aN,aO,fQ]
def Cs(q:Int×List Int):D:=.tup [.int q.1,.lst (aA q.2)]
def SpA(n:Nat)(p:List Int)(q:Int×List Int):Prop:=(q.1=0/\(∀k∈p,0<k)/\b9 p (upTo n)=some q.2)\/(q.1= -1/\(∀k∈p,k<0)/\∃z,b9 (p.reverse.map fun k=> -k) (upTo n)=some z/\Iv n z (k9 (p.map oN) (upTo n))/\q.2=fl n (k9 (p.map oN) (upTo n)))
structure UD(n:Nat)(p:List Int)(q:Int×List Int):Prop where
 h:q.1=0\/q.1= -1
 r:aP n q.2
 o:∀o:List Int,o.length=n->cmp (lj q.1 o) q.2=k9 (p.map oN) o
 c:q.1*(T2 n:Int)+(gm q.2:Int)=uH p
 a:SpA n p q
theorem KQ:∀{p:List Int},(∀k∈p,0<k)->uH p=p.length
 |[],_=>rfl
 |k::p,h=>by
  have ih:=KQ (p:=p) fun x hx=>h x (by simp[hx])
  unfold uH at ih⊢
  rw[map_cons,sum_cons,ih,length_cons]
  unfold LD
  rw[if_pos (h k (by simp))]
  omega
theorem KR:∀{p:List Int},(∀k∈p,k<0)->uH p= -(p.length:Int)
 |[],_=>rfl
 |k::p,h=>by
  have ih:=KR (p:=p) fun x hx=>h x (by simp[hx])
  have:=h k (by simp)
  unfold uH at ih⊢
  rw[map_cons,sum_cons,ih,length_cons]
  unfold LD
  rw[if_neg (by omega)]
  omega
theorem NF{n:Nat}(hn:n<=7){p:List Int}(g:Gp n p)(hl:p.length<=1000):∃q,mY [.int n,.lst (aA p)]=.ok (Cs q)/\UD n p q:=by
 obtain⟨k0,p',rfl⟩:=List.exists_cons_of_ne_nil g.ne
 obtain⟨z,hz⟩:=g.le
 have hp:=KN g.x
 have at0:ju (aA (k0::p')) 0=some (.int k0):=by rw[zD,Eo (by decide)];rfl
 unfold mY yQ
 simp -implicitDefEqProofs only [mS,mD,mF,eg,aG,reduceAdd,reduceSub,reduceEqDiff,reduceIte,aj,ak,aL,aM,aN,aO,at0]
 rcases g.sg with hs|hs
 ·have e:(k0::p').map oN=k0::p':=by
   conv=>rhs;rw[<-map_id (k0::p')]
   refine map_congr_left fun x hx=>?_
   have:=hs x hx
   show(if x<0 then-x else x)=x
   rw[if_neg (by omega)]
  rw[e]at hp hz
  simp -implicitDefEqProofs only [mS,mD,mF,eg,aG,reduceAdd,reduceSub,reduceEqDiff,reduceIte,aj,ak,aL,aM,aN,aO,decide_eq_true (hs k0 (by simp)),yX hn hp hz]
  obtain⟨w1,w2⟩:=nj (k0::p') _ _ z hp (kO n) hz
  refine⟨(0,z),rfl,⟨.inl rfl,og (E9 hp hz),fun o ho=>?_,?_,.inl ⟨rfl,hs,hz⟩⟩⟩
  ·rw[e,Fy ho,<-w1]
   rfl
  ·rw[KQ hs]
   dsimp only
   rw[w2,Kl n (by omega)]
   omega
 ·have e:(k0::p').map oN=(k0::p').map fun k=> -k:=map_congr_left fun x hx=>by
   have:=hs x hx
   show(if x<0 then-x else x)= -x
   rw[if_pos this]
  rw[e]at hp hz
  have hk0:=hs k0 (by simp)
  have hr:=BZ hp hz
  rw[<-map_reverse]at hr
  have XT:Ps n ((k0::p').reverse.map fun k=> -k):=fun x hx=>hp x (by
   rw[map_reverse,mem_reverse]at hx
   exact hx)
  simp -implicitDefEqProofs only [mS,mD,mF,eg,aG,reduceAdd,reduceSub,reduceEqDiff,reduceIte,aj,ak,aL,aM,aN,aO,decide_eq_false (show¬0<k0 by omega),y6 _ hl,yX hn XT hr]
  have iv:=E9 XT hr
  unfold jg qN
  simp -implicitDefEqProofs only [mS,mD,mF,eg,aG,reduceAdd,reduceSub,reduceEqDiff,reduceIte,aj,ak,aL,aM,aN,aO,GW iv hn]
  have es:k9 ((k0::p').reverse.map fun k=> -k).reverse (upTo n)=k9 ((k0::p').map oN) (upTo n):=by rw[e,map_reverse,reverse_reverse]
  rw[es]at iv⊢
  obtain⟨w1,w2⟩:=nj ((k0::p').map fun k=> -k) _ _ z hp (kO n) hz
  rw[<-e]at w1
  refine⟨(-1,fl n (k9 ((k0::p').map oN) (upTo n))),rfl,⟨.inr rfl,Km (og iv.symm),fun o ho=>?_,?_,.inr ⟨rfl,hs,_,hr,iv,rfl⟩⟩⟩
  ·show cmp o.reverse (fl n (k9 ((k0::p').map oN) (upTo n)))=_
   rw[TN ho iv,<-Fy ho]
  ·rw[KR hs]
   dsimp only
   have e1:=DI iv
   rw[<-w1]at e1⊢
   rw[w2,Kl n (by omega),length_map]at e1
   omega
theorem Ca:∀(a b o z:List Int),b9 (a++b) o=some z->∃z',b9 a o=some z'
 |[],b,o,z,_=>⟨o,rfl⟩
 |k::a,b,o,z,h=>by
  rw[cons_append]at h
  unfold b9 at h⊢
  split at h
  ·cases h
  ·rename_i c
   rw[if_neg c]
   exact Ca a b _ z h
theorem DJ{n:Nat}{a b:List Int}(h:Gp n (a++b))(ha:a≠[]):Gp n a:=⟨ha,fun k hk=>h.x k (by simp[hk]),h.sg.imp (fun z k hk=>z k (by simp[hk])) (fun z k hk=>z k (by simp[hk])),by
 obtain⟨z,e⟩:=h.le
 rw[map_append]at e
 exact Ca _ _ _ _ e⟩
theorem DK{n:Nat}{a:List Int}(h:Gp n a):Gp n a.reverse:=⟨by simpa using h.ne,fun k hk=>h.x k (by simpa using hk),h.sg.imp (fun z k hk=>z k (by simpa using hk)) (fun z k hk=>z k (by simpa using hk)),by
 obtain⟨z,e⟩:=h.le
 rw[map_reverse]
 exact⟨_,BZ (KN h.x) e⟩⟩
theorem TV{n:Nat}{a b:List Int}(h:Gp n (a++b))(hb:b≠[]):Gp n b:=by
 have h1:=DK h
 rw[reverse_append]at h1
 have h2:=DK (DJ h1 (by simpa using hb))
 rwa [reverse_reverse]at h2
def Bl(n:Nat)(bs:List (List Int)):Prop:=∀b∈bs,Gp n b\/b=[]
theorem Aa{n:Nat}:∀(bs:List (List Int))(x y:List Int),bs.flatten=x++y->Bl n bs->∃cs:List (List Int),cs.length<=bs.length/\cs.flatten=y/\Bl n cs
 |[],x,y,e,_=>⟨[],Nat.le_refl _,by
  rw[flatten_nil]at e
  rw[(append_eq_nil_iff.mp e.symm).2]
  rfl,fun b hb=>(nomatch hb)⟩
 |b::bs,x,y,e,h=>by
  rw[flatten_cons]at e
  rcases List.append_eq_append_iff.mp e with⟨c,e1,e2⟩|⟨c,e1,e2⟩
  ·obtain⟨cs,h1,h2,h3⟩:=Aa bs c y e2 fun z hz=>h z (by simp[hz])
   exact⟨cs,by rw[length_cons];omega,h2,h3⟩
  ·refine⟨c::bs,by simp,by rw[flatten_cons,e2],fun z hz=>?_⟩
   rcases mem_cons.mp hz with rfl|hz
   ·by_cases hz:z=[]
    ·exact .inr hz
    ·rcases h b (by simp)with g|g
     ·rw[e1]at g
      exact .inl (TV g hz)
     ·rw[g]at e1
      exact .inr (append_eq_nil_iff.mp e1.symm).2
   ·exact h z (by simp[hz])
theorem DM{n:Nat}:∀(gV bs:List (List Int)),(∀p∈gV,Gp n p)->Mx n gV->Bl n bs->gV.flatten=bs.flatten->gV.length<=bs.length
 |[],bs,_,_,_,_=>zero_le _
 |p::ps,[],hp,_,_,e=>by
  rw[flatten_cons,flatten_nil]at e
  exact absurd (append_eq_nil_iff.mp e).1 (hp p (by simp)).ne
 |p::ps,b::bs,hp,hm,hb,e=>by
  have hm2:Mx n ps:=by
   cases ps with
   |nil=>trivial
   |cons q B=>exact hm.2
  rw[flatten_cons,flatten_cons]at e
  rw[length_cons,length_cons]
  rcases List.append_eq_append_iff.mp e with⟨x,e1,e2⟩|⟨x,e1,e2⟩
  ·cases x with
   |nil=>
    have:=DM ps bs (fun z hz=>hp z (by simp[hz])) hm2 (fun z hz=>hb z (by simp[hz])) e2
    omega
   |cons k x=>
    exfalso
    cases ps with
    |nil=>cases e2
    |cons q B=>
     cases q with
     |nil=>exact(hp [] (by simp)).ne rfl
     |cons y q=>
      rw[flatten_cons,cons_append,cons_append]at e2
      injection e2 with e3 e4
      subst e3
      refine hm.1 y q rfl ?_
      have g:=hb b (by simp)
      rcases g with g|g
      ·rw[e1,show p++y::x=p++[y]++x by simp]at g
       exact DJ g (by simp)
      ·rw[g]at e1
       have:=(append_eq_nil_iff.mp e1.symm).2
       cases this
  ·obtain⟨cs,h1,h2,h3⟩:=Aa bs x ps.flatten e2 fun z hz=>hb z (by simp[hz])
   have:=DM ps cs (fun z hz=>hp z (by simp[hz])) hm2 h3 h2.symm
   omega
inductive F2 {α β:Type} (R:α->β->Prop):List α->List β->Prop
 |nil:F2 R [] []
 |cons {a:α} {b:β} {l:List α} {m:List β}:R a b->F2 R l m->F2 R (a::l) (b::m)
theorem xM{n:Nat}(hn:n<=7):∀(ps:List (List Int)),(∀p∈ps,Gp n p/\p.length<=1000)->∃qs:List (Int×List Int),cy (bN 0) gH cB (jQ 1 [.int n]) (ps.map fun ns=>D.lst (ns.map D.int))=.ok (qs.map Cs)/\qs.length=ps.length/\
  (∀q∈qs,(q.1=0\/q.1= -1)/\aP n q.2)/\(∀o:List Int,o.length=n->KI o qs=k9 (ps.flatten.map oN) o)/\hS qs*(T2 n:Int)+(ki (qs.map (·.2)):Int)=uH ps.flatten/\F2 (UD n) ps qs
 |[],_=>⟨[],rfl,rfl,(fun q hq=>nomatch hq),(fun o _=>rfl),(by show(0:Int)*_+0=0;rw[Int.zero_mul];rfl),.nil⟩
 |p::ps,h=>by
  obtain⟨qs,e1,e2,e3,e8,e9,YB⟩:=xM hn ps fun x hx=>h x (by simp[hx])
  obtain⟨q,e4,e5⟩:=NF hn (h p (by simp)).1 (h p (by simp)).2
  refine⟨q::qs,?_,by rw[length_cons,length_cons,e2],fun x hx=>?_,fun o ho=>?_,?_,.cons e5 YB⟩
  ·rw[map_cons]
   unfold cy
   rw[e1]
   have e6:cB [.val (.lst (aA p)),.val (.int n)]=.ok (Cs q):=by
    unfold cB
    simp -implicitDefEqProofs only [mS,mD,mF,eg,aG,reduceAdd,reduceSub,reduceEqDiff,reduceIte,aj,ak,aL,aM,aN,aO,e4]
   rw[fR,R.bg,show gH _=.ok true from rfl,R.bg,if_pos rfl]
   have e7:cB (List.set (jQ 1 [.int n]) 0 (.val (.lst (p.map D.int))))=.ok (Cs q):=e6
   rw[e7]
   rfl
  ·rcases mem_cons.mp hx with rfl|hx
   ·exact⟨e5.h,e5.r⟩
   ·exact e3 x hx
  ·show KI (cmp (lj q.1 o) q.2) qs=_
   rw[e5.o o ho,e8 _ (by rw[Fx,ho]),flatten_cons,map_append,sV]
  ·have hc:=e5.c
   have e:ki (q.2::qs.map (·.2))=gm q.2+ki (qs.map (·.2)):=by unfold ki;rw[map_cons,sum_cons]
   show(q.1+hS qs)*(T2 n:Int)+(ki (q.2::qs.map (·.2)):Int)=_
   rw[e,flatten_cons,z9,<-hc,<-e9,Int.add_mul]
   omega
theorem FA:∀(l:List Int)(a:Nat),dA (dA l a) a=l
 |[],a=>by cases a<;>rfl
 |[x],0=>rfl
 |x::y::l,0=>rfl
 |x::l,a+1=>by rw[pL,pL,FA l a]
theorem FD(k:Int):oN (-k)=oN k:=by unfold oN;split<;>split<;>omega
theorem NG{k:Int}(h:k≠0):LD (-k)= -LD k:=by unfold LD;split<;>split<;>omega
theorem G1{k:Int}(h:k≠0)(s:List Int):uH (cU s k)=uH s+LD k/\∀o,k9 ((cU s k).map oN) o=k9 ((s++[k]).map oN) o:=by
 unfold cU
 have e1:∀k,uH [k]=LD k:=fun k=>by simp[uH]
 split
 ·rename_i hl
  have hne:s≠[]:=fun z=>by rw[z]at hl;cases hl
  have x8:s.dropLast++[-k]=s:=by
   have:=List.dropLast_concat_getLast hne
   rw[List.getLast?_eq_some_getLast hne]at hl
   rw[Option.some.inj hl]at this
   exact this
  have h2:uH s=uH s.dropLast+LD (-k):=by
   conv=>lhs;rw[<-x8]
   rw[z9,e1]
  refine⟨by rw[h2,NG h];omega,fun o=>?_⟩
  conv=>rhs;rw[<-x8]
  rw[map_append,map_append,sV,sV]
  show _=dA (dA _ (oN (-k)-1).toNat) (oN k-1).toNat
  rw[FD,FA]
 ·exact⟨by rw[z9,e1],fun o=>rfl⟩
theorem y7:∀(w s:List Int),(∀k∈w,k≠0)->uH (cC s w)=uH s+uH w/\∀o,k9 ((cC s w).map oN) o=k9 ((s++w).map oN) o
 |[],s,_=>⟨by simp[cC,uH],fun o=>by rw[append_nil];rfl⟩
 |k::w,s,h=>by
  obtain⟨p1,p2⟩:=G1 (h k (by simp)) s
  obtain⟨t1,t2⟩:=y7 w (cU s k) fun x hx=>h x (by simp[hx])
  have e:uH (k::w)=LD k+uH w:=by unfold uH;rw[map_cons,sum_cons]
  refine⟨?_,fun o=>?_⟩
  ·show uH (cC (cU s k) w)=_
   rw[t1,p1,e]
   omega
  ·show k9 ((cC (cU s k) w).map oN) o=_
   rw[t2,map_append,sV,p2,<-sV,<-map_append,List.append_assoc]
   rfl
theorem F2.len {α β:Type}{R:α->β->Prop}:∀{l:List α}{m:List β},F2 R l m->l.length=m.length
 |_,_,.nil=>rfl
 |_,_,.cons _ h=>by rw[length_cons,length_cons,F2.len h]
def Xv(n:Nat)(w:List Int)(m:Nat):Prop:=∃bs:List (List Int),bs.flatten=w/\bs.length<=m/\Bl n bs
theorem y8{n:Nat}{w:List Int}(hw:∀k∈w,iH n k):Xv n w w.length:=⟨w.map fun k=>[k],by induction w with
  |nil=>rfl
  |cons k w ih=>rw[map_cons,flatten_cons,ih fun x hx=>hw x (by simp[hx])];rfl,by rw[length_map];exact Nat.le_refl _,fun b hb=>by
  obtain⟨k,hk,rfl⟩:=mem_map.mp hb
  have hk:=hw k hk
  obtain⟨a,ea,ha⟩:=KJ hk
  refine .inl ⟨by simp,fun x hx=>by rw[mem_singleton.mp hx];exact hk,?_,dA (upTo n) a,?_⟩
  ·unfold iH at hk
   by_cases c:0<k
   ·exact .inl fun x hx=>by rw[mem_singleton.mp hx];exact c
   ·exact .inr fun x hx=>by rw[mem_singleton.mp hx];omega
  ·show b9 [oN k] (upTo n)=_
   rw[ea,fH (n:=n),if_neg (by rw[ao (by omega),ao (by omega)];omega)]
   rfl⟩
theorem KS{n:Nat}(hn:n<=7){w:List Int}(hw:∀k∈w,iH n k)(hl:w.length<=900)(hB:Xv n (cC [] w) 40):∃qs:List (Int×List Int),dM [.int n,.lst (aA w)]=.ok (.lst (qs.map Cs))/\(qs.length<=w.length/\qs.length<=40)/\
  (∀q∈qs,(q.1=0\/q.1= -1)/\aP n q.2)/\(∀o:List Int,o.length=n->KI o qs=k9 (w.map oN) o)/\hS qs*(T2 n:Int)+(ki (qs.map (·.2)):Int)=uH w/\∃gV:List (List Int),gV.flatten=cC [] w/\(∀p∈gV,Gp n p)/\F2 (UD n) gV qs:=by
 have Oe:=p4 w []
 simp -implicitDefEqProofs only [length_nil]at Oe
 obtain⟨t1,t2⟩:=y7 w [] fun k hk=>(hw k hk).1
 obtain⟨gV,e1,ef,e2,e3,e0⟩:=TU hn (w:=cC [] w) (fun k hk=>by
  rcases sU w [] k hk with h|h
  ·cases h
  ·exact hw k h) (by omega)
 obtain⟨qs,e4,e5,e6,e7,e8,YB⟩:=xM hn gV fun p hp=>⟨(e3 p hp).1,by have:=(e3 p hp).2;omega⟩
 rw[ef]at e7 e8
 have hg:gV.length<=40:=by
  obtain⟨bs,b1,b2,b3⟩:=hB
  have:=DM gV bs (fun p hp=>(e3 p hp).1) e0 b3 (ef.trans b1.symm)
  omega
 have hg2:=YB.len
 refine⟨qs,?_,⟨by omega,by omega⟩,e6,fun o ho=>by rw[e7 o ho,t2];rfl,(by rw[e8,t1];show 0+uH w=_;omega),gV,ef,fun p hp=>(e3 p hp).1,YB⟩
 unfold dM oJ
 simp -implicitDefEqProofs only [mS,mD,mF,eg,aG,reduceAdd,reduceSub,reduceEqDiff,reduceIte,aj,ak,aL,aM,aN,aO,DA w (by omega),e1,R.kC,fO,e4]
 rw[pe (by rw[length_map];exact big (by omega))]
 simp -implicitDefEqProofs only [reduceIte,aj,ak,aL,aM,aN,aO]
theorem NH{n:Nat}(hn:n<=7)(h:Int){r:List Int}(hr:aP n r):fX [.int h,.lst (aA r)]=.ok (aA (jU n h r)):=by
 unfold fX qM jU
 simp -implicitDefEqProofs only [mS,mD,mF,eg,aG,reduceAdd,reduceSub,reduceEqDiff,reduceIte,aj,ak,aL,aM,aN,aO]
 rw[jE _ _ (by decide)]
 simp -implicitDefEqProofs only [reduceIte,aj,ak,aL,aM,aN,aO]
 by_cases c:h%2=0
 ·rw[if_pos c]
  simp -implicitDefEqProofs only [reduceIte,aj,ak,aL,aM,aN,aO,show(h%2==0)=true by rw[beq_iff_eq];exact c,fQ]
 ·rw[if_neg c]
  simp -implicitDefEqProofs only [reduceIte,aj,ak,aL,aM,aN,aO,show(h%2==0)=false by rw[beq_eq_false_iff_ne];exact c,Dw hr.len hn,fQ]
theorem NI{n:Nat}(hn:n<=7){qs:List (Int×List Int)}(hq:∀q∈qs,aP n q.2)(hl:qs.length<=100):bc [.lst (qs.map Cs)]=.ok (cV n qs):=by
 unfold bc jy mT
 simp -implicitDefEqProofs only [mS,mD,mF,eg,aG,reduceAdd,reduceSub,reduceEqDiff,reduceIte,aj,ak,aL,aM,aN,aO]
 obtain⟨⟨rs,h,t3⟩,e,hj1,Kf⟩:=ui (S:=List (List Int)×Int×Sl) (b:=dh) (fun i q=>q.1=(cV n (qs.drop (qs.length-i))).reverse/\q.2.1=hS (qs.drop (qs.length-i)))
  (fun q=>[.val (.lst (qs.map Cs)),.deep (.ls q.1),.val (.int q.2.1),q.2.2]) (qs.map Cs).reverse 0 ([],0,.no) ⟨by rw[Nat.sub_zero,drop_length];rfl,by rw[Nat.sub_zero,drop_length];rfl⟩ (by
   rintro j ⟨rs,h,t3⟩ x ⟨hs1,hs2⟩ hx
   rw[Nat.zero_add]at hs1 hs2⊢
   dsimp only at hs1 hs2
   have Tn:j<(qs.map Cs).reverse.length:=(List.getElem?_eq_some_iff.mp hx).1
   rw[length_reverse,length_map]at Tn
   rw[getElem?_reverse (by rw[length_map];exact Tn),length_map,getElem?_map,getElem?_eq_getElem (show qs.length-1-j<qs.length by omega)]at hx
   have Eg:x=Cs (qs[qs.length-1-j]'(by omega)):=(Option.some.inj hx).symm
   have hd:qs.drop (qs.length-(j+1))=(qs[qs.length-1-j]'(by omega))::qs.drop (qs.length-j):=by
    rw[show qs.length-(j+1)=qs.length-1-j by omega,List.drop_eq_getElem_cons (by omega),show qs.length-1-j+1=qs.length-j by omega]
   have hqm:(qs[qs.length-1-j]'(by omega))∈qs:=getElem_mem _
   generalize (qs[qs.length-1-j]'(by omega))=q at Eg hd hqm
   obtain⟨hh,r⟩:=q
   subst Eg
   have e1:=NH hn h (hq _ hqm)
   have hlen:rs.length<=100:=by rw[hs1,length_reverse,uI,length_drop];omega
   refine⟨(rs++[jU n h r],h+hh,.val (Cs (hh,r))),?_,?_,?_⟩
   ·unfold dh
    have a1:ju [D.int hh,.lst (aA r)] 1=some (.lst (aA r)):=rfl
    have a0:ju [D.int hh,.lst (aA r)] 0=some (.int hh):=rfl
    simp -implicitDefEqProofs only [fR,reduceIte,aj,ak,aL,aM,aN,aO,Cs,kP,kQ,a1,a0,e1,wX]
    rw[Fd (by omega)]
    simp -implicitDefEqProofs only [reduceIte,aj,ak,aL,aM,aN,aO,a0,GA]
   ·show rs++[jU n h r]=_
    rw[hd,hs1,hs2]
    show _=(jU n (hS (qs.drop (qs.length-j))) r::cV n (qs.drop (qs.length-j))).reverse
    rw[reverse_cons]
   ·show h+hh=_
    rw[hd,hs2]
    show _=hh+hS (qs.drop (qs.length-j))
    omega)
 dsimp only at e hj1 Kf
 rw[e]
 rw[Nat.zero_add,length_reverse,length_map,sub_self,drop_zero]at hj1
 simp -implicitDefEqProofs only [reduceIte,aj,ak,aL,aM,aN,aO,kP,kQ,Jg,hj1,reverse_reverse]
theorem Cb{n:Nat}(hn:n<=7):∀(rs:List (List Int))(R:List RP),(∀r∈rs,aP n r)->qk n R->(∀o:List Int,o.length=n->yq o ((rs.foldl (fun R r=>eO n R (r,tH r)) R).map (·.1))=yq o (R.map (·.1)++rs))/\ki ((rs.foldl (fun R r=>eO n R (r,tH r)) R).map (·.1))=ki (R.map (·.1))+ki rs
 |[],R,_,_=>⟨fun o _=>by rw[append_nil];rfl,by simp[ki]⟩
 |r::rs,R,hr,h=>by
  have iv:=hU (hr r (by simp))
  obtain⟨a1,a2⟩:=Nb hn (kO n) (Kl n (by omega)) (c:=(r,tH r)) h.iv iv
  obtain⟨b1,b2⟩:=Cb hn rs (eO n R (r,tH r)) (fun x hx=>hr x (by simp[hx])) (Dm hn (kO n) h iv)
  have e:ki (r::rs)=gm r+ki rs:=by unfold ki;rw[map_cons,sum_cons]
  refine⟨fun o ho=>?_,?_⟩
  ·show yq o ((rs.foldl (fun R r=>eO n R (r,tH r)) (eO n R (r,tH r))).map (·.1))=_
   rw[b1 o ho,nT,a1 o ho,<-nT,List.append_assoc]
   rfl
  ·show ki ((rs.foldl (fun R r=>eO n R (r,tH r)) (eO n R (r,tH r))).map (·.1))=_
   rw[b2,a2,e]
   show _+gm r+_=_
   omega
theorem KU(qs:List (Int×List Int)):cy (bN 0) kF kG (jQ 1 []) (qs.map Cs)=.ok (aA (qs.map (·.1))):=by
 rw[mO (fun d=>match d with
  |.tup (x::_)=>x
  |_=>.non) _ fun x hx=>by
   obtain⟨q,hq,rfl⟩:=mem_map.mp hx
   exact⟨_,fR _ _ _,rfl,rfl⟩]
 unfold aA
 rw[map_map,map_map]
 rfl
theorem KW(n:Nat):Iv n (dW n).1 (dW n).2:=by
 have c:∀p,p<n->aa (upTo n).reverse p=((n-1-p:Nat):Int):=fun p hp=>by
  rw[fu (by rw[ai];exact hp),ai,ao (by omega)]
 have h:∀p,p<n->0<=aa (upTo n).reverse p/\aa (upTo n).reverse p<n/\aa (upTo n).reverse (aa (upTo n).reverse p).toNat=p:=fun p hp=>by
  rw[c p hp,toNat_natCast,c _ (by omega)]
  exact⟨by omega,by omega,by omega⟩
 exact⟨by show(upTo n).reverse.length=n;rw[length_reverse,ai],by show(upTo n).reverse.length=n;rw[length_reverse,ai],h,h⟩
theorem KY{n:Nat}{o:List Int}(h:o.length=n):cmp o (upTo n).reverse=o.reverse:=by
 refine aT (by rw[fJ,length_reverse,length_reverse,ai,h]) fun t ht=>?_
 rw[fJ,length_reverse,ai]at ht
 rw[di (by rw[length_reverse,ai];exact ht),fu (by rw[ai];exact ht),ai,ao (by omega),toNat_natCast,fu (by rw[h];exact ht),h]
theorem Cc(a b:Int)(o:List Int):lj a (lj b o)=lj (a+b) o:=by
 unfold lj
 by_cases c:a%2=0
 ·rw[if_pos c]
  by_cases d:b%2=0
  ·rw[if_pos d,if_pos (by omega)]
  ·rw[if_neg d,if_neg (by omega)]
 ·rw[if_neg c]
  by_cases d:b%2=0
  ·rw[if_pos d,if_neg (by omega)]
  ·rw[if_neg d,if_pos (by omega),reverse_reverse]
theorem y9{n:Nat}:∀(m:Nat)(o:List Int),o.length=n->yq o ((replicate m (dW n)).map (·.1))=lj m o
 |0,o,_=>rfl
 |m+1,o,h=>by
  rw[replicate_succ,map_cons]
  show yq (cmp o (upTo n).reverse) _=_
  rw[KY h,y9 m _ (by rw[length_reverse];exact h),show o.reverse=lj 1 o from rfl,Cc]
  congr 1
theorem za{n:Nat}(hc:gm (upTo n).reverse=T2 n):∀m:Nat,(ki ((replicate m (dW n)).map (·.1)):Int)=m*(T2 n:Int)
 |0=>by rw[show((0:Nat):Int)=0 from rfl,Int.zero_mul];rfl
 |m+1=>by
  have e:∀(r:List Int)(R:List (List Int)),ki (r::R)=gm r+ki R:=fun r R=>by unfold ki;rw[map_cons,sum_cons]
  rw[replicate_succ,map_cons,e]
  show((gm (upTo n).reverse+ki _:Nat):Int)=_
  rw[hc,Int.natCast_add,za hc m,Int.natCast_add,Int.add_mul]
  omega
theorem KZ{n:Nat}(hn:n<8):gm (upTo n).reverse=T2 n:=by
 have:=Fw (kO n)
 rw[Kl n hn]at this
 omega
structure YC(n:Nat)(w:List Int)(h:Int)(R:List RP):Prop where
 ln:qk n R
 nh:∀x∈R,x≠dW n
 or:yq (lj h (upTo n)) (R.map (·.1))=k9 (w.map oN) (upTo n)
 cr:h*(T2 n:Int)+(ki (R.map (·.1)):Int)=uH w
 bd: -(w.length:Int)<=h/\h<=w.length
 le:R.length<=40
 ll:R.length<=w.length
theorem ve.app:∀{A B:List RP},ve (A++B)->ve A
 |[],B,_=>trivial
 |[p],B,_=>trivial
 |q::p::A,B,h=>⟨h.1,ve.app (A:=p::A) h.2⟩
def yt(r:List Int):RP:=(r,tH r)
theorem FE{n:Nat}(h1:1<=n)(hn:n<=7){w:List Int}(hw:∀k∈w,iH n k)(hl:w.length<=900)(hB:Xv n (cC [] w) 40):∃h R,mj [.int n,.lst (aA w)]=.ok (.tup [.int h,.lst (R.map fun p=>.lst (aA p.1))])/\YC n w h R/\∃(qs:List (Int×List Int))(gV:List (List Int)),(h,R)=Vl n (hS qs) ((cV n qs).map yt)/\(∀q∈qs,(q.1=0\/q.1= -1)/\aP n q.2)/\gV.flatten=cC [] w/\(∀p∈gV,Gp n p)/\F2 (UD n) gV qs:=by
 obtain⟨qs,e1,⟨e2,e0⟩,e3,e7,e8,gV,g1,g2,g3⟩:=KS hn hw hl hB
 have hq2:∀q∈qs,aP n q.2:=fun q hq=>(e3 q hq).2
 have e4:=NI hn hq2 (by omega)
 have e5:=uI n qs
 have e6:=yZ qs hq2
 have l0:qk n []:=⟨(fun x hx=>nomatch hx),trivial,(fun x hx=>nomatch hx)⟩
 have hL:qk n (fY n (cV n qs)):=EH hn (kO n) (cV n qs) [] e6 l0
 obtain⟨p1,p2⟩:=Cb hn (cV n qs) [] e6 l0
 have hcl:=sy n (cV n qs) []
 rw[length_nil]at hcl
 have Nm:(fY n (cV n qs)).length<=qs.length:=by
  show((cV n qs).foldl (fun R r=>eO n R (r,tH r)) []).length<=qs.length
  omega
 have p1':∀o:List Int,o.length=n->yq o ((fY n (cV n qs)).map (·.1))=yq o (cV n qs):=p1
 have p2':ki ((fY n (cV n qs)).map (·.1))=ki (cV n qs):=by
  have:ki ((fY n (cV n qs)).map (·.1))=0+ki (cV n qs):=p2
  omega
 have hsb: -(qs.length:Int)<=hS qs/\hS qs<=0:=by
  clear e0 g3 e1 e4 e5 e6 hL p1 p2 hcl Nm p1' p2' e7 e8 e2 hq2
  induction qs with
  |nil=>exact⟨Int.le_refl _,Int.le_refl _⟩
  |cons q qs ih=>
   have:=ih fun x hx=>e3 x (by simp[hx])
   have:=(e3 q (by simp)).1
   rw[show hS (q::qs)=q.1+hS qs from rfl,length_cons]
   omega
 have hV:qv n ((cV n qs).map yt)=fY n (cV n qs):=by unfold qv fY;rw[List.foldl_map];rfl
 generalize hR:fY n (cV n qs)=C at*
 have hcn:dB n C<=C.length:=List.Sublist.length_le (List.takeWhile_sublist _)
 have x8:=xw (n:=n) C
 have hrest:=GO (KW n) hL
 refine⟨dB n C+hS qs,C.drop (dB n C),?_,⟨⟨fun x hx=>hL.iv x (List.mem_of_mem_drop hx),?_,fun x hx=>hL.ns x (List.mem_of_mem_drop hx)⟩,hrest,?_,?_,by omega,by rw[length_drop];omega,by rw[length_drop];omega⟩,qs,gV,(by unfold Vl;rw[hV,Int.add_comm]),e3,g1,g2,g3⟩
 ·unfold mj JV
  simp -implicitDefEqProofs only [mS,mD,mF,eg,aG,reduceAdd,reduceSub,reduceEqDiff,reduceIte,aj,ak,aL,aM,aN,aO,e1]
  have e9:dN [.int n,.lst (qs.map Cs)]=R.ne (R.bind (EO [.val (.int n),.val (.lst (qs.map Cs)),.no,.no,.val (vc n C)]) aj):=by
   show R.ne (R.bind (bc [.lst (qs.map Cs)]) _)=_
   rw[e4,R.bg]
   refine congrArg R.ne ((if_pos ⟨⟨by omega,by omega⟩,by omega,e6⟩).trans ?_)
   rw[toNat_natCast,hR]
  rw[e9]
  unfold EO vc
  have a0:∀(x y:D),ju [x,y] 0=some x:=fun _ _=>rfl
  have a1:∀(x y:D),ju [x,y] 1=some y:=fun _ _=>rfl
  simp -implicitDefEqProofs only [reduceIte,aj,ak,aL,aM,aN,aO,a0,a1,fO,KU,R.kC]
  rw[fz (by rw[length_map];omega)]
  simp -implicitDefEqProofs only [reduceIte,aj,ak,aL,aM,aN,aO,yM,wX,map_some]
 ·have:=hL.lw
  rw[x8,reverse_append]at this
  exact this.app
 ·have h2:=p1' (lj (hS qs) (upTo n)) (by rw[B7,ai])
  rw[y0 qs (upTo n) hq2 (ai n),e7 _ (ai n)]at h2
  rw[<-h2]
  conv=>rhs;rw[x8]
  rw[map_append,nT,y9 _ _ (by rw[B7,ai]),Cc]
 ·rw[y4 qs hq2]at p2'
  have h3:ki (C.map (·.1))=ki ((replicate (dB n C) (dW n)).map (·.1))+ki ((C.drop (dB n C)).map (·.1)):=by
   conv=>lhs;rw[x8]
   rw[map_append,sC]
  have h4:=za (KZ (show n<8 by omega)) (dB n C)
  rw[<-e8,<-p2',h3,Int.natCast_add,h4,Int.add_mul]
  omega
def act(n:Nat)(k:Int)(ω:Int×List RP):Int×List RP:=if 0<k then Pa n (Xr n (k-1).toNat) ω else Ma n (Xr n (-k-1).toNat) ω
def gb(n:Nat)(w:List Int)(ω:Int×List RP):Int×List RP:=w.foldl (fun ω k=>act n k ω) ω
theorem dO(n:Nat)(u v:List Int)(ω:Int×List RP):gb n (u++v) ω=gb n v (gb n u ω):=foldl_append
section
variable{n:Nat}(hn:n<=7)(h2:2<=n)
include hn h2
theorem wx{k:Int}(hk:iH n k)(h:0<k)(ω:Int×List RP):∃a:Nat,k=(a:Int)+1/\a+1<n/\act n k ω=Pa n (Xr n a) ω/\act n (-k) ω=Ma n (Xr n a) ω:=by
 unfold iH at hk
 refine⟨(k-1).toNat,by omega,by omega,if_pos h,?_⟩
 unfold act
 rw[if_neg (by omega),show- -k-1=k-1 by omega]
theorem K0{k:Int}(hk:iH n k){ω:Int×List RP}(hc:Cv n ω):Cv n (act n k ω):=by
 unfold iH at hk
 unfold act
 split
 ·exact Xm hn h2 hc (xK (by omega))
 ·exact Xn hn h2 hc (xK (by omega))
theorem sW:∀(w:List Int){ω:Int×List RP},(∀k∈w,iH n k)->Cv n ω->Cv n (gb n w ω)
 |[],_,_,hc=>hc
 |k::w,ω,h,hc=>sW w (ω:=act n k ω) (fun x hx=>h x (by simp[hx])) (K0 hn h2 (h k (by simp)) hc)
theorem FG{k:Int}(hk:iH n k){ω:Int×List RP}(hc:Cv n ω):act n (-k) (act n k ω)=ω:=by
 have QZ:=hk
 unfold iH at QZ
 by_cases h:0<k
 ·obtain⟨a,e,ha,e1,_⟩:=wx hn h2 hk h ω
  obtain⟨b,e',_,_,e2⟩:=wx hn h2 hk h (act n k ω)
  obtain rfl:a=b:=by omega
  rw[e2,e1]
  exact P9 hn h2 hc (xK ha)
 ·have hm:iH n (-k):=by unfold iH;omega
  obtain⟨a,e,ha,_,e1⟩:=wx hn h2 hm (by omega) ω
  obtain⟨b,e',_,e2,_⟩:=wx hn h2 hm (by omega) (act n k ω)
  obtain rfl:a=b:=by omega
  rw[Int.neg_neg]at e1
  rw[e2,e1]
  exact Xo hn h2 hc (xK ha)
end
section
variable{n:Nat}(hn:n<=7)(h2:2<=n)
include hn h2
end
def Lk(n:Nat)(u v:List Int):Prop:=∀ω,Cv n ω->gb n u ω=gb n v ω
theorem Lk.symm {n:Nat}{u v:List Int}(h:Lk n u v):Lk n v u:=fun ω hc=>(h ω hc).symm
theorem Lk.refl (n:Nat)(u:List Int):Lk n u u:=fun _ _=>rfl
theorem Lk.trans {n:Nat}{u v w:List Int}(h:Lk n u v)(g:Lk n v w):Lk n u w:=fun ω hc=>(h ω hc).trans (g ω hc)
section
variable{n:Nat}(hn:n<=7)(h2:2<=n)
include hn h2
theorem Lk.mid {u v:List Int}(h:Lk n u v){a b:List Int}(ha:∀k∈a,iH n k):Lk n (a++u++b) (a++v++b):=fun ω hc=>by
 rw[dO,dO,dO,dO,h _ (sW hn h2 a ha hc)]
theorem TX{k:Int}(hk:iH n k):Lk n [k,-k] []:=fun ω hc=>FG hn h2 hk hc
end
theorem i9{n:Nat}{r:List Int}(h:aP n r):Iv n (yt r).1 (yt r).2:=hU h
theorem sX{n:Nat}:Cv n ((0:Int),[]):=⟨fun x hx=>(nomatch hx),rfl⟩
section
variable{n:Nat}(hn:n<=7)(h2:2<=n)
include hn h2
theorem DN{ω:Int×List RP}(hc:Cv n ω):Pa n (Zr n) ω=ω:=by
 have:=DG (A:=ω.2) (B:=[]) hn ω.1 hc.iv (fun x hx=>nomatch hx)
 rw[append_nil]at this
 exact this.trans hc.id
theorem sY{ω:Int×List RP}(hc:Cv n ω):∀(w:List Int)(c:RP)(z:List Int),Ps n w->Iv n c.1 c.2->b9 w c.1=some z->gb n w (Pa n c ω)=Pa n (yt z) ω/\aP n z
 |[],c,z,_,ic,h=>by
  obtain rfl:c.1=z:=Option.some.inj h
  have hr:=og ic
  refine⟨?_,hr⟩
  show Pa n c ω=_
  rw[jS ic (i9 hr) rfl]
  rfl
 |k::w,c,z,hw,ic,h=>by
  obtain⟨a,rfl,ha⟩:=hw k (by simp)
  unfold b9 at h
  split at h
  ·cases h
  ·rename_i hc2
   rw[show((a:Int)+1-1).toNat=a by omega,show((a:Int)+1).toNat=a+1 by omega]at hc2
   rw[show((a:Int)+1-1).toNat=a by omega]at h
   have hne:=P1 ic ha
   have hlt:aa c.1 a<aa c.1 (a+1):=by
    have:¬aa c.1 (a+1)<aa c.1 a:=fun z=>hc2 (.inr z)
    omega
   have ih:=sY hc w (o4 c a) z (fun x hx=>hw x (by simp[hx])) (dS ic ha) h
   refine⟨?_,ih.2⟩
   show gb n w (act n ((a:Int)+1) (Pa n c ω))=_
   have e:act n ((a:Int)+1) (Pa n c ω)=Pa n (o4 c a) ω:=by
    unfold act
    rw[if_pos (by omega),show((a:Int)+1-1).toNat=a by omega]
    exact TH hn h2 hc ic ha hlt
   rw[e]
   exact ih.1
theorem xN:∀(p:List Int){ω:Int×List RP},(∀k∈p,iH n k)->Cv n ω->gb n (p.reverse.map fun k=> -k) (gb n p ω)=ω
 |[],_,_,_=>rfl
 |k::p,ω,h,hc=>by
  have hk:=h k (by simp)
  rw[reverse_cons,map_append,dO]
  show act n (-k) (gb n (p.reverse.map fun k=> -k) (gb n p (act n k ω)))=ω
  rw[xN p (fun x hx=>h x (by simp[hx])) (K0 hn h2 hk hc)]
  exact FG hn h2 hk hc
end
def qB(n:Nat)(g:Int)(L:List RP):List RP:=if g%2=0 then L else L.map (lg n)
def DP(n:Nat)(q:Int×List Int)(ω:Int×List RP):Int×List RP:=Vl n (ω.1+q.1) (qB n q.1 ω.2++[yt q.2])
section
variable{n:Nat}(hn:n<=7)(h2:2<=n)
include hn h2
theorem G2{p:List Int}{q:Int×List Int}(g:Gp n p)(s:UD n p q){ω:Int×List RP}(hc:Cv n ω):DP n q ω=gb n p ω:=by
 rcases s.a with⟨e,hs,hz⟩|⟨e,hs,z,hz,iv,e2⟩
 ·have hp:Ps n p:=fun k hk=>by
   have h1:=g.x k hk
   have h2:=hs k hk
   unfold iH at h1
   exact⟨(k-1).toNat,by omega,by omega⟩
  have h:=sY hn h2 hc p (Zr n) q.2 hp (bZ n) hz
  rw[DN hn h2 hc]at h
  rw[h.1]
  unfold DP qB Pa
  rw[e,if_pos (by decide),Int.add_zero]
 ·have hx:∀k∈p.reverse.map (fun k=> -k),iH n k:=fun k hk=>by
   obtain⟨x,hx,rfl⟩:=mem_map.mp hk
   have:=g.x x (by simpa using hx)
   unfold iH at*
   omega
  have hp:Ps n (p.reverse.map fun k=> -k):=fun k hk=>by
   have h1:=hx k hk
   obtain⟨x,hx,rfl⟩:=mem_map.mp hk
   have h2:=hs x (by simpa using hx)
   unfold iH at h1
   exact⟨(-x-1).toNat,by omega,by omega⟩
  have c1:=sW hn h2 p g.x hc
  have h:=sY hn h2 c1 (p.reverse.map fun k=> -k) (Zr n) z hp (bZ n) hz
  rw[DN hn h2 c1,xN hn h2 p g.x hc]at h
  have iz:=i9 h.2
  have e3:gb n p ω=Ma n (yt z) ω:=by
   have:=P9 hn h2 c1 iz
   rw[<-h.1]at this
   exact this.symm
  rw[e3]
  have ez:yt z=(z,k9 (p.map oN) (upTo n)):=jS iz iv rfl
  have e4:yt q.2=LC n (yt z):=by
   rw[ez,e2]
   have ic:=p6 (r:=(z,k9 (p.map oN) (upTo n))) iv
   exact jS (i9 (og ic)) ic rfl
  unfold DP qB Ma
  rw[e,e4,if_neg (by decide)]
theorem xO:∀{ps:List (List Int)}{qs:List (Int×List Int)}{ω:Int×List RP},F2 (UD n) ps qs->(∀p∈ps,Gp n p)->Cv n ω->qs.foldl (fun ω q=>DP n q ω) ω=gb n ps.flatten ω
 |_,_,_,.nil,_,_=>rfl
 |p::ps,q::qs,ω,.cons s f,h,hc=>by
  have g:=h p (by simp)
  rw[foldl_cons,flatten_cons,dO,G2 hn h2 g s hc]
  exact xO f (fun x hx=>h x (by simp[hx])) (sW hn h2 p g.x hc)
theorem NJ{g:Int}{L:List RP}(h:aX n L):aX n (qB n g L):=by
 unfold qB
 split
 ·exact h
 ·exact h.lg
theorem NK{q:Int×List Int}(hq:q.1=0\/q.1= -1)(hr:aP n q.2)(h:Int){L:List RP}(hI:aX n L):Vl n (h+q.1) (qB n q.1 L++[yt q.2])=DP n q (Vl n h L):=by
 unfold DP qB
 rcases hq with e|e
 ·rw[e,if_pos (by decide),if_pos (by decide),Int.add_zero,Int.add_zero]
  exact Kv hn h2 h hI (.one (i9 hr))
 ·rw[e,if_neg (by decide),if_neg (by decide)]
  exact Ky hn h2 h hI (.one (i9 hr)) (-1)
theorem G3{q g:Int}{r:List Int}{L:List RP}(hI:aX n L)(hr:aP n r):qB n g (qB n q L++[yt r])=qB n (q+g) L++[yt (jU n g r)]:=by
 unfold qB jU
 have hf:(L.map (lg n)).map (lg n)=L:=by
  rw[map_map]
  conv=>rhs;rw[<-map_id L]
  exact map_congr_left fun x hx=>Fl (hI x hx)
 have e:lg n (yt r)=yt (fl n r.reverse):=jS (uG (i9 hr)) (i9 (og (uG (i9 hr)))) rfl
 by_cases a:g%2=0
 ·rw[if_pos a,if_pos a]
  by_cases b:q%2=0
  ·rw[if_pos b,if_pos (by omega)]
  ·rw[if_neg b,if_neg (by omega)]
 ·rw[if_neg a,if_neg a,map_append]
  by_cases b:q%2=0
  ·rw[if_pos b,if_neg (by omega),List.map_singleton,e]
  ·rw[if_neg b,if_pos (by omega),hf,List.map_singleton,e]
theorem Cd:∀(qs:List (Int×List Int))(h:Int)(L:List RP),aX n L->(∀q∈qs,(q.1=0\/q.1= -1)/\aP n q.2)->Vl n (h+hS qs) (qB n (hS qs) L++(cV n qs).map yt)=qs.foldl (fun ω q=>DP n q ω) (Vl n h L)
 |[],h,L,_,_=>by
  show Vl n (h+0) (qB n 0 L++[])=_
  rw[Int.add_zero,append_nil]
  rfl
 |q::qs,h,L,hI,hq=>by
  obtain⟨q1,q2⟩:=hq q (by simp)
  have ih:=Cd qs (h+q.1) (qB n q.1 L++[yt q.2]) ((NJ hn h2 hI).app (.one (i9 q2))) fun x hx=>hq x (by simp[hx])
  rw[foldl_cons,<-NK hn h2 q1 q2 h hI,<-ih,G3 hn h2 hI q2,List.append_assoc,show hS (q::qs)=q.1+hS qs from rfl,Int.add_assoc]
  rfl
theorem NN{k:Int}(hk:iH n k){s:List Int}(hs:∀x∈s,iH n x):Lk n (cU s k) (s++[k]):=by
 unfold cU
 split
 ·rename_i hl
  have hne:s≠[]:=fun z=>by rw[z]at hl;cases hl
  have x8:s.dropLast++[-k]=s:=by
   have:=List.dropLast_concat_getLast hne
   rw[List.getLast?_eq_some_getLast hne]at hl
   rw[Option.some.inj hl]at this
   exact this
  have hm:iH n (-k):=by unfold iH at*;omega
  have h:=Lk.mid hn h2 (TX hn h2 hm) (a:=s.dropLast) (b:=[]) fun x hx=>hs x ((List.dropLast_sublist s).subset hx)
  rw[Int.neg_neg,append_nil,append_nil,append_nil]at h
  have e:s++[k]=s.dropLast++[-k,k]:=by
   conv=>lhs;rw[<-x8]
   simp
  rw[e]
  exact h.symm
 ·exact .refl n _
theorem FH:∀(w s:List Int),(∀k∈w,iH n k)->(∀x∈s,iH n x)->Lk n (cC s w) (s++w)
 |[],s,_,_=>by rw[append_nil];exact .refl n _
 |k::w,s,h,hs=>by
  have hk:=h k (by simp)
  have hp:∀x∈cU s k,iH n x:=fun x hx=>by
   unfold cU at hx
   split at hx
   ·exact hs x ((List.dropLast_sublist s).subset hx)
   ·rcases mem_append.mp hx with hx|hx
    ·exact hs x hx
    ·rw[mem_singleton.mp hx];exact hk
  refine(FH w (cU s k) (fun x hx=>h x (by simp[hx])) hp).trans fun ω hc=>?_
  rw[dO,NN hn h2 hk hs ω hc,<-dO,List.append_assoc]
  rfl
theorem zb{w:List Int}(hw:∀k∈w,iH n k)(hl:w.length<=900)(hB:Xv n (cC [] w) 40):mj [.int n,.lst (aA w)]=.ok (.tup [.int (gb n w (0,[])).1,.lst ((gb n w (0,[])).2.map fun p=>.lst (aA p.1))])/\YC n w (gb n w (0,[])).1 (gb n w (0,[])).2:=by
 obtain⟨h,R,e,F,qs,gV,e1,e2,e3,e4,e5⟩:=FE (n:=n) (by omega) hn hw hl hB
 have r:=Cd hn h2 qs 0 [] (fun x hx=>nomatch hx) e2
 have ez:qB n (hS qs) []=[]:=by unfold qB;split<;>rfl
 rw[ez,nil_append,Int.zero_add,<-e1]at r
 have c0:Vl n 0 []=((0:Int),[]):=sX.id
 rw[c0,xO hn h2 e5 e4 sX,e3,FH hn h2 w [] hw (fun x hx=>nomatch hx) _ sX,nil_append]at r
 rw[<-r]
 exact⟨e,F⟩
theorem G4{w:List Int}(hw:∀k∈w,iH n k)(hl:w.length<=40):mj [.int n,.lst (aA w)]=.ok (.tup [.int (gb n w (0,[])).1,.lst ((gb n w (0,[])).2.map fun p=>.lst (aA p.1))])/\YC n w (gb n w (0,[])).1 (gb n w (0,[])).2:=by
 have Oe:=p4 w []
 rw[length_nil]at Oe
 have hx:∀k∈cC [] w,iH n k:=fun k hk=>by
  rcases sU w [] k hk with h|h
  ·cases h
  ·exact hw k h
 obtain⟨bs,b1,b2,b3⟩:=y8 hx
 exact zb hn h2 hw (by omega) ⟨bs,b1,by omega,b3⟩
end
theorem Iv.ws {n:Nat}{r s:List Int}(h:Iv n r s)(hn:n<=7):0<=wsum 0 s/\wsum 0 s<=343:=by
 have:=Bv s 0 (fun j hj=>by
  rw[h.ls]at hj
  have:=h.sr j hj
  omega) (by rw[h.ls];omega)
 rw[h.ls]at this
 omega
theorem FI(w:List Int)(k:Int):aA w++[D.int k]=aA (w++[k]):=qh w [k]
theorem FJ(k:Int)(t:List Int):ju (aA (k::t)) 0=some (.int k):=by
 rw[eI (by decide) (by rw[length_cons];omega)]
 rfl
theorem NP{n:Nat}{r s:List Int}(h:Iv n r s)(hd:se s=[]):r=upTo n:=zL h fun a ha hlt=>by
 have:=lK.mpr ⟨a,rfl,by rw[h.ls];exact ha,hlt⟩
 rw[hd]at this
 cases this
theorem rw_loop{n:Nat}(hn:n<=7)(s0:Sl):∀(fuel:Nat)(r s w0:List Int),Iv n r s->343-wsum 0 s<fuel->w0.length+fuel<=1000->∃w s2 s3,iS je jf fuel [s0,.own (aA w0),.val (.lst (aA r)),.val (.lst (aA (se s)))]=.ok (.nx [s0,.own (aA (w0++w)),s2,s3])/\Wk n true w r s/\w.length<=fuel
 |0,r,s,w0,h,hf,_=>by
  have:=(h.ws hn).2
  omega
 |fuel+1,r,s,w0,h,hf,hl=>by
  unfold iS
  have ec:je [s0,.own (aA w0),.val (.lst (aA r)),.val (.lst (aA (se s)))]=.ok (decide (0<((se s).length:Int))):=by
   unfold je
   simp -implicitDefEqProofs only [mS,mD,mF,eg,aG,reduceAdd,reduceSub,reduceEqDiff,reduceIte,aj,ak,aL,aM,aN,aO,aR]
  rw[ec,R.bg]
  cases hd:se s with
  |nil=>
   refine⟨[],.val (.lst (aA r)),.val (.lst (aA [])),?_,NP h hd,zero_le _⟩
   rw[append_nil]
   rfl
  |cons k t=>
   obtain⟨a,rfl,h1,h2,h3⟩:=JA hd
   rw[h.ls]at h1
   obtain⟨w,s2,s3,e,hw,Us⟩:=rw_loop hn s0 fuel (nR r a) (dA s a) (w0++[(a:Int)+1]) (h.step h1) (by rw[xp _ _ _ (by rw[h.ls];exact h1)];omega) (by rw[length_append,length_cons,length_nil];omega)
   refine⟨((a:Int)+1)::w,s2,s3,?_,⟨a,rfl,h1,h2,fun _=>h3,hw⟩,by rw[length_cons];omega⟩
   have eb:jf [s0,.own (aA w0),.val (.lst (aA r)),.val (.lst (aA (((a:Int)+1)::t)))]=.ok (.nx [s0,.own (aA (w0++[(a:Int)+1])),.val (.lst (aA (nR r a))),.val (.lst (aA (se (dA s a))))]):=by
    unfold jf
    simp -implicitDefEqProofs only [reduceIte,aj,ak,aL,aM,aN,aO,FJ]
    rw[vZ (by rw[aR];omega),FI]
    simp -implicitDefEqProofs only [reduceIte,aj,ak,aL,aM,aN,aO,FJ]
    rw[BC h hn h1]
    simp -implicitDefEqProofs only [reduceIte,aj,ak,aL,aM,aN,aO]
    rw[ur (h.step h1) hn]
    simp -implicitDefEqProofs only [reduceIte,aj,ak,aL,aM,aN,aO]
   rw[if_pos (by rw[length_cons];exact decide_eq_true (by omega)),eb,R.bg]
   rw[List.append_assoc]at e
   exact e
theorem NQ{n:Nat}{r s:List Int}(h:Iv n r s)(hn:n<=7):∃w,gG [.lst (aA r)]=.ok (aA w)/\Wk n true w r s/\w.length<=400:=by
 unfold gG xn
 simp -implicitDefEqProofs only [mS,mD,mF,eg,aG,reduceAdd,reduceSub,reduceEqDiff,reduceIte,aj,ak,aL,aM,aN,aO]
 rw[ur h hn]
 simp -implicitDefEqProofs only [reduceIte,aj,ak,aL,aM,aN,aO]
 have:=(h.ws hn).1
 obtain⟨w,s2,s3,e,hw,hl⟩:=rw_loop hn (.val (.lst (aA r))) 400 r s [] h (by omega) (by decide)
 rw[Ep,e]
 refine⟨w,?_,hw,hl⟩
 simp -implicitDefEqProofs only [reduceIte,aj,ak,aL,aM,aN,aO,fQ]
theorem FN{n:Nat}{b:Bool}{z:List Int}:∀{w r s o:List Int},Wk n b w r s->Iv n r s->Od n o r z->b9 w o=some z
 |[],r,s,o,hw,h,d=>by
  have hr:r=upTo n:=hw
  subst hr
  rw[d.done]
  rfl
 |k::w,r,s,o,hw,h,d=>by
  obtain⟨a,rfl,h1,h2,_,hw⟩:=hw
  rw[fH (n:=n),if_neg (Od.up h d h1 h2)]
  exact FN hw (h.step h1) (d.step h h1 h2)
theorem K1{n:Nat}{b:Bool}:∀{w r s:List Int},Wk n b w r s->Ps n w
 |[],_,_,_=>fun k hk=>(nomatch hk)
 |k::w,r,s,h=>fun x hx=>by
  obtain⟨a,e,h1,_,_,hw⟩:=h
  rcases mem_cons.mp hx with rfl|hx
  ·exact⟨a,e,h1⟩
  ·exact K1 hw x hx
theorem K2{n:Nat}:∀{w v r s:List Int},Iv n r s->Wk n true w r s->Wk n true v r s->w=v
 |[],[],_,_,_,_,_=>rfl
 |[],k::v,r,s,h,h1,h2=>by
  obtain⟨a,rfl,b1,b2,_⟩:=h2
  have e:r=upTo n:=h1
  subst e
  have:=h.symm.uniq (kO n).symm
  rw[this,ao (by omega),ao (by omega)]at b2
  omega
 |k::w,[],r,s,h,h1,h2=>by
  obtain⟨a,rfl,b1,b2,_⟩:=h1
  have e:r=upTo n:=h2
  subst e
  have:=h.symm.uniq (kO n).symm
  rw[this,ao (by omega),ao (by omega)]at b2
  omega
 |k::w,l::v,r,s,h,h1,h2=>by
  obtain⟨a,rfl,a1,a2,a3,a4⟩:=h1
  obtain⟨b,rfl,b1,b2,b3,b4⟩:=h2
  have:a=b:=by
   rcases Nat.lt_trichotomy a b with z|z|z
   ·have:=b3 rfl a z;omega
   ·exact z
   ·have:=a3 rfl b z;omega
  subst this
  rw[K2 (h.step a1) a4 b4]
open Classical in
def lu(n:Nat)(r:List Int):List Int:=if h:∃w,Wk n true w r (tH r)then h.choose else[]
theorem Qc{n:Nat}{r w:List Int}(h:aP n r)(hw:Wk n true w r (tH r)):lu n r=w:=by
 have hx:∃w,Wk n true w r (tH r):=⟨w,hw⟩
 unfold lu
 rw[dif_pos hx]
 exact K2 (hU h) hx.choose_spec hw
theorem FO{n:Nat}(hn:n<=7){r:List Int}(h:aP n r):gG [.lst (aA r)]=.ok (aA (lu n r))/\Wk n true (lu n r) r (tH r):=by
 obtain⟨w,e,hw,_⟩:=NQ (hU h) hn
 rw[Qc h hw]
 exact⟨e,hw⟩
theorem Xw{n:Nat}{r:List Int}(h:aP n r):Od n (upTo n) r r:=⟨ai n,h.len,fun p hp=>by
 have:=(hU h).rs p hp
 rw[ao (by omega)]
 omega,fun _ _ _ _ z=>z⟩
theorem Ab{n:Nat}(hn:n<=7){r:List Int}(h:aP n r):b9 (lu n r) (upTo n)=some r:=FN (FO hn h).2 (hU h) (Xw h)
theorem qR{n:Nat}(hn:n<=7){r:List Int}(h:aP n r):Ps n (lu n r):=K1 (FO hn h).2
theorem Xx{n:Nat}(hn:n<=7):T2 n<=21:=by
 have hc:n=0\/n=1\/n=2\/n=3\/n=4\/n=5\/n=6\/n=7:=by omega
 rcases hc with rfl|rfl|rfl|rfl|rfl|rfl|rfl|rfl<;>decide
theorem uJ{n:Nat}(hn:n<=7){r:List Int}(h:aP n r):(lu n r).length<=21:=by
 have h1:=(nj _ _ _ _ (qR hn h) (kO n) (Ab hn h)).2
 have h2:=DI (hU h).symm
 have h3:=Xx hn
 rw[Kl n (by omega)]at h1
 omega
theorem Ac{n:Nat}{w:List Int}(h:Ps n w):∀k∈w,iH n k/\0<k:=fun k hk=>by
 obtain⟨a,rfl,ha⟩:=h k hk
 unfold iH
 omega
theorem K3{n:Nat}:∀{w:List Int},Ps n w->w.map oN=w
 |[],_=>rfl
 |k::w,h=>by
  rw[map_cons,K3 fun x hx=>h x (by simp[hx])]
  obtain⟨a,rfl,ha⟩:=h k (by simp)
  unfold oN
  rw[if_neg (by omega)]
theorem K4{n:Nat}(hn:n<=7){r:List Int}(h:aP n r):Gp n (lu n r)\/lu n r=[]:=by
 by_cases c:lu n r=[]
 ·exact .inr c
 ·have hp:=qR hn h
  exact .inl ⟨c,fun k hk=>(Ac hp k hk).1,.inl fun k hk=>(Ac hp k hk).2,⟨r,by rw[K3 hp];exact Ab hn h⟩⟩
def sZ(w:List Int):List Int:=w.reverse.map fun k=> -k
theorem abs_neg(w:List Int):(w.map fun k=> -k).map oN=w.map oN:=by
 rw[map_map]
 refine map_congr_left fun k _=>?_
 show oN (-k)=oN k
 exact FD k
theorem TY{n:Nat}{w:List Int}(h:Gp n w\/w=[]):Gp n (sZ w)\/sZ w=[]:=by
 rcases h with h|h
 ·have g:=DK h
  refine .inl ⟨by unfold sZ;simpa using h.ne,fun k hk=>?_,?_,?_⟩
  ·obtain⟨x,hx,rfl⟩:=mem_map.mp hk
   have:=g.x x hx
   unfold iH at*
   omega
  ·rcases g.sg with z|z
   ·refine .inr fun k hk=>?_
    obtain⟨x,hx,rfl⟩:=mem_map.mp hk
    have:=z x hx
    omega
   ·refine .inl fun k hk=>?_
    obtain⟨x,hx,rfl⟩:=mem_map.mp hk
    have:=z x hx
    omega
  ·obtain⟨z,e⟩:=g.le
   exact⟨z,by unfold sZ;rw[abs_neg];exact e⟩
 ·rw[h]
  exact .inr rfl
section
variable{n:Nat}(hn:n<=7)(h2:2<=n)
include hn h2
theorem K5{r:List Int}(h:aP n r){ω:Int×List RP}(hc:Cv n ω):gb n (lu n r) ω=Pa n (yt r) ω:=by
 have:=(sY hn h2 hc (lu n r) (Zr n) r (qR hn h) (bZ n) (Ab hn h)).1
 rw[DN hn h2 hc]at this
 exact this
theorem qw(h:Int):Cv n (h,[]):=⟨fun x hx=>(nomatch hx),by
 have:=(sX (n:=n)).id
 unfold Vl at*
 injection this with a b
 dsimp only at*
 rw[b,show h+((dB n (qv n []):Nat):Int)=h by omega]⟩
theorem xP:aP n (upTo n).reverse:=(reverse_perm _).trans (kE n)
theorem K6:yt (upTo n).reverse=dW n:=jS (i9 (xP hn h2)) (om n) rfl
theorem K7(h:Int):gb n (lu n (upTo n).reverse) (h,[])=(h+1,[]):=by
 rw[K5 hn h2 (xP hn h2) (qw hn h2 h),K6 hn h2]
 unfold Pa
 rw[nil_append,z7 hn h2 h (L:=[]) (fun x hx=>nomatch hx)]
 exact(qw hn h2 (h+1)).id
theorem TZ(h:Int):gb n (sZ (lu n (upTo n).reverse)) (h,[])=(h-1,[]):=by
 have hp:=qR hn (xP hn h2)
 have:=xN hn h2 (lu n (upTo n).reverse) (fun k hk=>(Ac hp k hk).1) (qw hn h2 (h-1))
 rw[K7 hn h2,show h-1+1=h by omega]at this
 exact this
theorem FP:∀(m:Nat)(h:Int),gb n (replicate m (lu n (upTo n).reverse)).flatten (h,[])=(h+m,[])
 |0,h=>by rw[natCast_zero,Int.add_zero];rfl
 |m+1,h=>by
  rw[replicate_succ,flatten_cons,dO,K7 hn h2,FP m]
  congr 1
  omega
theorem FQ:∀(m:Nat)(h:Int),gb n (replicate m (sZ (lu n (upTo n).reverse))).flatten (h,[])=(h-m,[])
 |0,h=>by rw[natCast_zero,Int.sub_zero];rfl
 |m+1,h=>by
  rw[replicate_succ,flatten_cons,dO,TZ hn h2,FQ m]
  congr 1
  omega
theorem FT(h:Int):∀(B:List (List Int))(A:List RP),(∀r∈B,aP n r)->aX n A->gb n (B.map (lu n)).flatten (Vl n h A)=Vl n h (A++B.map yt)
 |[],A,_,_=>by rw[map_nil,map_nil,append_nil];rfl
 |r::B,A,hB,hA=>by
  have hr:=hB r (by simp)
  rw[map_cons,flatten_cons,dO,K5 hn h2 hr (KD hn h hA),<-KG hn h2 h hA (i9 hr),FT h B _ (fun x hx=>hB x (by simp[hx])) (hA.app (.one (i9 hr))),map_cons,List.append_assoc]
  rfl
end
def tj(n:Nat)(h:Int):List (List Int):=if h<0 then replicate (-h).toNat (sZ (lu n (upTo n).reverse))else replicate h.toNat (lu n (upTo n).reverse)
def kT(n:Nat)(h:Int)(rs:List (List Int)):List Int:=(tj n h).flatten++(rs.map (lu n)).flatten
theorem T3{n:Nat}{Z:List RP}(h:aX n Z):(Z.map (·.1)).map yt=Z:=by
 rw[map_map]
 conv=>rhs;rw[<-map_id Z]
 exact map_congr_left fun p hp=>jS (i9 (og (h p hp))) (h p hp) rfl
theorem G5{n:Nat}(hn:n<=7)(h2:2<=n){h0:Int}{Z:List RP}(hc:Cv n (h0,Z))(h:Int):gb n (kT n h (Z.map (·.1))) (0,[])=(h,Z):=by
 have e1:gb n (tj n h).flatten (0,[])=(h,[]):=by
  unfold tj
  split
  ·rw[FQ hn h2]
   congr 1
   omega
  ·rw[FP hn h2]
   congr 1
   omega
 unfold kT
 rw[dO,e1,<-(qw hn h2 h).id]
 show gb n _ (Vl n h [])=_
 rw[FT hn h2 h _ [] (fun r hr=>by
  obtain⟨p,hp,rfl⟩:=mem_map.mp hr
  exact og (hc.iv p hp)) (fun x hx=>nomatch hx),nil_append,T3 hc.iv]
 have:=hc.id
 unfold Vl at*
 injection this with a b
 dsimp only at*
 rw[b]
 congr 1
 omega
theorem FU{n:Nat}:∀(bs:List (List Int))(x y:List Int),bs.flatten=x++y->Bl n bs->∃cs:List (List Int),cs.length<=bs.length/\cs.flatten=x/\Bl n cs
 |[],x,y,e,_=>⟨[],Nat.le_refl _,by
  rw[flatten_nil]at e
  rw[(append_eq_nil_iff.mp e.symm).1]
  rfl,fun b hb=>(nomatch hb)⟩
 |b::bs,x,y,e,h=>by
  rw[flatten_cons]at e
  rcases List.append_eq_append_iff.mp e with⟨c,e1,e2⟩|⟨c,e1,e2⟩
  ·obtain⟨cs,h1,h2,h3⟩:=FU bs c y e2 fun z hz=>h z (by simp[hz])
   refine⟨b::cs,by rw[length_cons,length_cons];omega,by rw[flatten_cons,h2,e1],fun z hz=>?_⟩
   rcases mem_cons.mp hz with rfl|hz
   ·exact h z (by simp)
   ·exact h3 z hz
  ·refine⟨[x],by simp,by simp,fun z hz=>?_⟩
   rw[mem_singleton.mp hz]
   by_cases hz:x=[]
   ·exact .inr hz
   ·rcases h b (by simp)with g|g
    ·rw[e1]at g
     exact .inl (DJ g hz)
    ·rw[g]at e1
     exact .inr (append_eq_nil_iff.mp e1.symm).1
theorem uK(s:List Int)(k:Int)(w:List Int):cC s (k::w)=cC (cU s k) w:=rfl
theorem G6{s:List Int}{k l:Int}(h:(0<k/\0<l)\/(k<0/\l<0)):cU (s++[k]) l=s++[k]++[l]:=by
 unfold cU
 rw[if_neg fun e=>?_]
 have:k= -l:=by simpa using e
 omega
theorem uL(P:Int->Prop)(hP:∀k l,P k->P l->(0<k/\0<l)\/(k<0/\l<0)):∀(w s:List Int)(k:Int),P k->(∀x∈w,P x)->cC (s++[k]) w=s++k::w
 |[],s,k,_,_=>rfl
 |l::w,s,k,hk,hw=>by
  rw[uK,G6 (hP k l hk (hw l (by simp))),uL P hP w (s++[k]) l (hw l (by simp)) fun x hx=>hw x (by simp[hx])]
  simp
theorem K8(k:Int):cU [] k=[k]:=rfl
theorem Ce(P:Int->Prop)(hP:∀k l,P k->P l->(0<k/\0<l)\/(k<0/\l<0))(w:List Int)(hw:∀x∈w,P x):cC [] w=w:=by
 cases w with
 |nil=>rfl
 |cons k w=>
  rw[uK,K8]
  exact uL P hP w [] k (hw k (by simp)) fun x hx=>hw x (by simp[hx])
theorem Cf:∀(B A:List Int),(∀k∈B,0<k)->∃A' Xy B' Xz,A=A'++Xy/\B=Xz++B'/\cC A B=A'++B'
 |[],A,_=>⟨A,[],[],[],by simp,rfl,by rw[append_nil];rfl⟩
 |k::B,A,h=>by
  rw[uK]
  by_cases c:cU A k=A++[k]
  ·rw[c,uL (fun x=>0<x) (fun _ _ a b=>.inl ⟨a,b⟩) B A k (h k (by simp)) fun x hx=>h x (by simp[hx])]
   exact⟨A,[],k::B,[],by simp,rfl,rfl⟩
  ·have e:cU A k=A.dropLast:=by
    unfold cU at c⊢
    split
    ·rfl
    ·rename_i z
     rw[if_neg z]at c
     exact absurd rfl c
   rw[e]
   obtain⟨A',Xy,B',Xz,e1,e2,e3⟩:=Cf B A.dropLast fun x hx=>h x (by simp[hx])
   by_cases hA:A=[]
   ·subst hA
    exact⟨A',Xy,B',k::Xz,e1,by rw[e2];rfl,e3⟩
   ·exact⟨A',Xy++[A.getLast hA],B',k::Xz,by rw[<-List.append_assoc,<-e1,List.dropLast_concat_getLast],by rw[e2];rfl,e3⟩
theorem G7{n:Nat}(hn:n<=7){h:Int}{rs:List (List Int)}(hr:∀r∈rs,aP n r){m:Nat}(hm:h.natAbs+rs.length<=m):Xv n (cC [] (kT n h rs)) m:=by
 have hh:aP n (upTo n).reverse:=(reverse_perm _).trans (kE n)
 have gB:Bl n (rs.map (lu n)):=fun b hb=>by
  obtain⟨r,h1,rfl⟩:=mem_map.mp hb
  exact K4 hn (hr r h1)
 have pB:∀k∈(rs.map (lu n)).flatten,0<k:=fun k hk=>by
  obtain⟨b,hb,hk⟩:=mem_flatten.mp hk
  obtain⟨r,h1,rfl⟩:=mem_map.mp hb
  exact(Ac (qR hn (hr r h1)) k hk).2
 have gA:Bl n (tj n h):=fun b hb=>by
  unfold tj at hb
  split at hb
  ·rw[(mem_replicate.mp hb).2]
   exact TY (K4 hn hh)
  ·rw[(mem_replicate.mp hb).2]
   exact K4 hn hh
 have lA:(tj n h).length=h.natAbs:=by
  unfold tj
  split<;>rw[length_replicate]<;>omega
 unfold kT
 by_cases c:h<0
 ·have pA:∀k∈(tj n h).flatten,k<0:=fun k hk=>by
   obtain⟨b,hb,hk⟩:=mem_flatten.mp hk
   unfold tj at hb
   rw[if_pos c]at hb
   rw[(mem_replicate.mp hb).2]at hk
   unfold sZ at hk
   obtain⟨x,hx,rfl⟩:=mem_map.mp hk
   have:=(Ac (qR hn hh) x (by simpa using hx)).2
   omega
  rw[B1,Ce (fun x=>x<0) (fun _ _ a b=>.inr ⟨a,b⟩) _ pA]
  obtain⟨A',Xy,B',Xz,e1,e2,e3⟩:=Cf _ (tj n h).flatten pB
  obtain⟨cs,c1,c2,c3⟩:=FU _ _ _ e1 gA
  obtain⟨ds,d1,d2,d3⟩:=Aa _ _ _ e2 gB
  rw[length_map]at d1
  refine⟨cs++ds,by rw[flatten_append,c2,d2,e3],by rw[length_append];omega,fun b hb=>?_⟩
  rcases mem_append.mp hb with hb|hb
  ·exact c3 b hb
  ·exact d3 b hb
 ·have pA:∀k∈(tj n h).flatten,0<k:=fun k hk=>by
   obtain⟨b,hb,hk⟩:=mem_flatten.mp hk
   unfold tj at hb
   rw[if_neg c]at hb
   rw[(mem_replicate.mp hb).2]at hk
   exact(Ac (qR hn hh) k hk).2
  rw[Ce (fun x=>0<x) (fun _ _ a b=>.inl ⟨a,b⟩) _ fun k hk=>by
   rcases mem_append.mp hk with hk|hk
   ·exact pA k hk
   ·exact pB k hk]
  refine⟨tj n h++rs.map (lu n),by rw[flatten_append],by rw[length_append,length_map];omega,fun b hb=>?_⟩
  rcases mem_append.mp hb with hb|hb
  ·exact gA b hb
  ·exact gB b hb
theorem Cg{L:List (List Int)}{m:Nat}(h:∀b∈L,b.length<=m):L.flatten.length<=L.length*m:=by
 induction L with
 |nil=>simp
 |cons b L ih=>
  have h1:=h b (by simp)
  have h2:=ih fun x hx=>h x (by simp[hx])
  rw[flatten_cons,length_append,length_cons,succ_mul]
  omega
theorem qx{n:Nat}(hn:n<=7){h:Int}{rs:List (List Int)}(hr:∀r∈rs,aP n r):(tj n h).flatten.length<=h.natAbs*21/\(kT n h rs).length<=(h.natAbs+rs.length)*21/\∀k∈kT n h rs,iH n k:=by
 have hh:aP n (upTo n).reverse:=(reverse_perm _).trans (kE n)
 have l1:=uJ hn hh
 have lA:(tj n h).length=h.natAbs:=by
  unfold tj
  split<;>rw[length_replicate]<;>omega
 have hA:∀b∈tj n h,b.length<=21/\∀k∈b,iH n k:=fun b hb=>by
  unfold tj at hb
  split at hb
  ·rw[(mem_replicate.mp hb).2]
   refine⟨by unfold sZ;rw[length_map,length_reverse];exact l1,fun k hk=>?_⟩
   unfold sZ at hk
   obtain⟨x,hx,rfl⟩:=mem_map.mp hk
   have:=(Ac (qR hn hh) x (by simpa using hx)).1
   unfold iH at*
   omega
  ·rw[(mem_replicate.mp hb).2]
   exact⟨l1,fun k hk=>(Ac (qR hn hh) k hk).1⟩
 have hB:∀b∈rs.map (lu n),b.length<=21/\∀k∈b,iH n k:=fun b hb=>by
  obtain⟨r,h1,rfl⟩:=mem_map.mp hb
  exact⟨uJ hn (hr r h1),fun k hk=>(Ac (qR hn (hr r h1)) k hk).1⟩
 have f1:=Cg fun b hb=>(hA b hb).1
 have f2:=Cg fun b hb=>(hB b hb).1
 rw[lA]at f1
 rw[length_map]at f2
 refine⟨f1,?_,fun k hk=>?_⟩
 ·unfold kT
  rw[length_append,Nat.add_mul]
  omega
 ·unfold kT at hk
  rcases mem_append.mp hk with hk|hk
  ·obtain⟨b,hb,hk⟩:=mem_flatten.mp hk
   exact(hA b hb).2 k hk
  ·obtain⟨b,hb,hk⟩:=mem_flatten.mp hk
   exact(hB b hb).2 k hk
theorem FW{n:Nat}(hn:n<=7)(s0 s1 s2:Sl):∀(rs:List (List Int))(w:List Int)(s4:Sl),(∀r∈rs,aP n r)->w.length+rs.length*21<=100000->∃K9,dH fg (rs.map fun r=>.lst (aA r)) [s0,s1,s2,.own (aA w),s4]=.ok (.nx [s0,s1,s2,.own (aA (w++(rs.map (lu n)).flatten)),K9])
 |[],w,s4,_,_=>⟨s4,by rw[map_nil,map_nil,flatten_nil,append_nil];rfl⟩
 |r::rs,w,s4,hr,hl=>by
  have h1:=hr r (by simp)
  have l1:=uJ hn h1
  rw[length_cons,succ_mul]at hl
  obtain⟨K9,e⟩:=FW hn s0 s1 s2 rs (w++lu n r) (.val (.lst (aA r))) (fun x hx=>hr x (by simp[hx])) (by rw[length_append];omega)
  refine⟨K9,?_⟩
  have eb:fg (.lst (aA r)) [s0,s1,s2,.own (aA w),s4]=.ok (.nx [s0,s1,s2,.own (aA (w++lu n r)),.val (.lst (aA r))]):=by
   unfold fg
   simp -implicitDefEqProofs only [fR,mS,mD,mF,eg,aG,reduceAdd,reduceSub,reduceEqDiff,reduceIte,aj,ak,aL,aM,aN,aO,(FO hn h1).1]
   rw[MC (by rw[aR,aR];omega),qh]
   simp -implicitDefEqProofs only [reduceIte,aj,ak,aL,aM,aN,aO]
  rw[map_cons]
  conv=>lhs;unfold dH
  rw[eb]
  show dH _ _ _=_
  rw[e,map_cons,flatten_cons,List.append_assoc]
theorem wy(m:Nat)(w:List Int):(replicate m (aA w)).flatten=aA (replicate m w).flatten:=by
 unfold aA
 rw[List.map_flatten,List.map_replicate]
theorem Ae{n:Nat}(hn:1<=n/\n<=7){h:Int}{rs:List (List Int)}(hr:∀r∈rs,aP n r)(hl:h.natAbs+rs.length<=100):gK [.int n,.tup [.int h,.lst (rs.map fun r=>.lst (aA r))]]=.ok (aA (kT n h rs)):=by
 have hh:aP n (upTo n).reverse:=(reverse_perm _).trans (kE n)
 have l1:=uJ hn.2 hh
 have a0:∀(x y:D),ju [x,y] 0=some x:=fun _ _=>rfl
 have a1:∀(x y:D),ju [x,y] 1=some y:=fun _ _=>rfl
 have f1:=(qx hn.2 (h:=h) hr).1
 unfold gK uY
 simp -implicitDefEqProofs only [mS,mD,mF,eg,aG,reduceAdd,reduceSub,reduceEqDiff,reduceIte,aj,ak,aL,aM,aN,aO,Fe n hn,(FO hn.2 hh).1,a0,a1]
 have key:∀s2:Sl,∃K9,dH fg (rs.map fun r=>.lst (aA r)) [.val (.int n),.val (.tup [.int h,.lst (rs.map fun r=>.lst (aA r))]),s2,.own (aA (tj n h).flatten),.no]=.ok (.nx [.val (.int n),.val (.tup [.int h,.lst (rs.map fun r=>.lst (aA r))]),s2,.own (aA (kT n h rs)),K9]):=fun s2=>FW hn.2 _ _ s2 rs _ .no hr (by omega)
 obtain⟨s4,e4⟩:=key (.own (aA (lu n (upTo n).reverse)))
 by_cases c:h<0
 ·simp -implicitDefEqProofs only [reduceIte,aj,ak,aL,aM,aN,aO,c,decide_true,a0,y6 _ (show(lu n (upTo n).reverse).length<=1000 by omega)]
  rw[wW _ _ (by
   refine⟨by omega,by omega,?_⟩
   rw[aR,length_map,length_reverse]
   have:(lu n (upTo n).reverse).length*(-h).toNat<=21*100:=Nat.mul_le_mul l1 (by omega)
   exact big (by omega)),wy]
  have ew:(replicate (-h).toNat ((lu n (upTo n).reverse).reverse.map fun k=> -k)).flatten=(tj n h).flatten:=by unfold tj;rw[if_pos c];rfl
  rw[ew]
  simp -implicitDefEqProofs only [reduceIte,aj,ak,aL,aM,aN,aO,a1,e4,fQ]
 ·simp -implicitDefEqProofs only [reduceIte,aj,ak,aL,aM,aN,aO,c,decide_false,a0]
  rw[wW _ _ (by
   refine⟨by omega,by omega,?_⟩
   rw[aR]
   have:(lu n (upTo n).reverse).length*h.toNat<=21*100:=Nat.mul_le_mul l1 (by omega)
   exact big (by omega)),wy]
  have ew:(replicate h.toNat (lu n (upTo n).reverse)).flatten=(tj n h).flatten:=by unfold tj;rw[if_neg c]
  rw[ew]
  simp -implicitDefEqProofs only [reduceIte,aj,ak,aL,aM,aN,aO,a1,e4,fQ]
theorem tm{b:D->DE->R Out}{x:D}{xs:List D}{e e':DE}(h:b x e=.ok (.nx e')):dH b (x::xs) e=dH b xs e':=by
 conv=>lhs;unfold dH
 rw[h]
 rfl
theorem NR(ns:List Int)(k:Nat):dg [.lst (aA ns),.int k]=.ok (.int (aa ns k)):=by
 unfold dg pD aa
 simp -implicitDefEqProofs only [mS,mD,mF,eg,aG,reduceAdd,reduceSub,reduceEqDiff,reduceIte,aj,ak,aL,aM,aN,aO,aR]
 by_cases h:(k:Int)<ns.length
 ·have hk:k<ns.length:=by omega
  simp -implicitDefEqProofs only [reduceIte,aj,ak,aL,aM,aN,aO,h,decide_true]
  rw[eI (by omega) h]
  simp -implicitDefEqProofs only [reduceIte,aj,ak,aL,aM,aN,aO,toNat_natCast]
  unfold aa
  rfl
 ·simp -implicitDefEqProofs only [reduceIte,aj,ak,aL,aM,aN,aO,h,decide_false]
  rw[getElem?_eq_none (by omega)]
  rfl
theorem G8(r:List Int)(h:r.length<64):Bd (aA r)=.ok (aA (sortI r)):=by
 unfold Bd
 rw[wX]
 exact if_pos h
theorem La{n:Nat}(hn:n<=7):Bg [.int n]=.ok (aA (upTo n).reverse):=by
 refine(if_pos ⟨by omega,by omega⟩).trans (congrArg R.ok ?_)
 rw[toNat_natCast]
 have hc:n=0\/n=1\/n=2\/n=3\/n=4\/n=5\/n=6\/n=7:=by omega
 rcases hc with rfl|rfl|rfl|rfl|rfl|rfl|rfl|rfl<;>rfl
def qT:List RP->D
 |[]=>.non
 |p::_=>.lst (aA p.1)
theorem NS(xs:List D):Ba (.lst xs) .non=some (.bl true):=rfl
theorem XA{n:Nat}(hn:n<=7)(s0 s1:Sl){A:List RP}{q:RP}(hA:∀p∈A,Iv n p.1 p.2)(iq:Iv n q.1 q.2)(hf:∀p B,A=p::B->kZ p q=[]){j:Nat}(hj:j+1<n)(s4:Sl):
  eu (.int ((j:Int)+1)) [s0,s1,.val (qT A),.val (.lst (aA q.1)),s4]=.ok (.nx [s0,s1,.val (qT A),.val (.lst (aA q.1)),.val (.int ((j:Int)+1))]):=by
 unfold eu
 cases A with
 |nil=>
  unfold qT
  simp -implicitDefEqProofs only [fR,mS,mD,mF,eg,aG,reduceAdd,reduceSub,reduceEqDiff,reduceIte,aj,ak,aL,aM,aN,aO,MF]
 |cons p B=>
  have ip:=hA p (by simp)
  have h:=(cO ip iq).mp (hf p B rfl) j hj
  have e1:jF (aA q.1) (.int ((j:Int)+1-1))=.ok (.int (aa q.2 j)):=by rw[show(j:Int)+1-1=((j:Nat):Int)by omega];exact mZ iq (by omega)
  have e2:jF (aA q.1) (.int ((j:Int)+1))=.ok (.int (aa q.2 (j+1))):=by have:=mZ iq hj;rw[<-this];congr 2
  unfold qT
  simp -implicitDefEqProofs only [fR,reduceIte,aj,ak,aL,aM,aN,aO,NS,e1,e2]
  by_cases c:aa q.2 j>aa q.2 (j+1)
  ·have h2:=h c
   simp -implicitDefEqProofs only [reduceIte,aj,ak,aL,aM,aN,aO,c,decide_true]
   have lp:=ip.lr
   rw[eI (by omega) (by omega),eI (by omega) (by omega)]
   simp -implicitDefEqProofs only [reduceIte,aj,ak,aL,aM,aN,aO]
   rw[show((j:Int)+1-1).toNat=j by omega,show((j:Int)+1).toNat=j+1 by omega,decide_eq_false (by omega)]
   simp -implicitDefEqProofs only [reduceIte,aj,ak,aL,aM,aN,aO]
  ·simp -implicitDefEqProofs only [reduceIte,aj,ak,aL,aM,aN,aO,c,decide_false]
theorem Qd{n:Nat}(hn:n<=7)(s0 s1:Sl){A:List RP}{q:RP}(hA:∀p∈A,Iv n p.1 p.2)(iq:Iv n q.1 q.2)(hf:∀p B,A=p::B->kZ p q=[]):∀(m j:Nat)(s4:Sl),j+1+m<=n->∃K9,dH eu (nK ((j:Int)+1) m) [s0,s1,.val (qT A),.val (.lst (aA q.1)),s4]=.ok (.nx [s0,s1,.val (qT A),.val (.lst (aA q.1)),K9])
 |0,j,s4,_=>⟨s4,by rw[show nK ((j:Int)+1) 0=[]from rfl];rfl⟩
 |m+1,j,s4,h=>by
  obtain⟨s,e⟩:=Qd hn s0 s1 hA iq hf m (j+1) (.val (.int ((j:Int)+1))) (by omega)
  refine⟨s,?_⟩
  have er:nK ((j:Int)+1) (m+1)=.int ((j:Int)+1)::nK (((j+1:Nat):Int)+1) m:=by
   rw[rN,rN,List.range_succ_eq_map,map_cons,map_map,<-rQ]
   congr 1
   congr 1
   apply map_congr_left
   intro x _
   simp -implicitDefEqProofs only [Function.comp]
   omega
  rw[er,tm (XA hn s0 s1 hA iq hf (by omega) s4)]
  exact e
theorem XC{n:Nat}(h1:1<=n)(hn:n<=7)(s0 s4:Sl){A:List RP}{q:RP}(hA:∀p∈A,Iv n p.1 p.2)(iq:Iv n q.1 q.2)(hs:Lv n q)(hh:q≠dW n)(hf:∀p B,A=p::B->kZ p q=[])(s3:Sl):
  ∃K9,eB (.lst (aA q.1)) [s0,.val (.int n),.val (qT A),s3,s4]=.ok (.nx [s0,.val (.int n),.val (qT (q::A)),.val (.lst (aA q.1)),K9]):=by
 have hi:Iv n (upTo n) (upTo n):=kO n
 have lq:=iq.lr
 have n1:q.1≠upTo n:=fun e=>by
  have i2:=iq
  rw[e]at i2
  exact JQ hs (Prod.ext e (i2.symm.uniq hi.symm))
 have n2:q.1≠(upTo n).reverse:=fun e=>by
  have i2:=iq
  rw[e]at i2
  exact hh (Prod.ext e (i2.symm.uniq (KW n).symm))
 unfold eB
 simp -implicitDefEqProofs only [fR,mS,mD,mF,eg,aG,reduceAdd,reduceSub,reduceEqDiff,reduceIte,aj,ak,aL,aM,aN,aO,fO]
 rw[rh (fun _=>false) q.1 fun s _=>⟨_,fR _ _ _,rfl,rfl⟩]
 have ef:q.1.filter (fun _=>false)=[]:=List.filter_eq_nil_iff.mpr fun _ _=>by simp
 have t1:∀xs:List D,jv (xV (.lst xs)) "list"=true:=fun _=>rfl
 rw[ef]
 simp -implicitDefEqProofs only [reduceIte,aj,ak,aL,aM,aN,aO,R.kC,t1,Bool.not_true]
 rw[fz (by decide),show(D.lst [])=.lst (aA [])from rfl]
 simp -implicitDefEqProofs only [reduceIte,aj,ak,aL,aM,aN,aO,OG,decide_true,Bool.not_true]
 rw[G8 _ (by omega),Jz (og iq),yJ _ (by omega),toNat_natCast,yR,La hn]
 simp -implicitDefEqProofs only [reduceIte,aj,ak,aL,aM,aN,aO,OG,V7,decide_true,Bool.not_true,decide_eq_false n1,decide_eq_false n2]
 rw[IZ _ _ (by omega)]
 obtain⟨s,e⟩:=Qd hn s0 (.val (.int n)) hA iq hf (n-1) 0 s4 (by omega)
 rw[show((n:Int)-1).toNat=n-1 by omega,show(1:Int)=((0:Nat):Int)+1 from rfl]
 simp -implicitDefEqProofs only [reduceIte,aj,ak,aL,aM,aN,aO,e]
 exact⟨_,rfl⟩
theorem Lb{n:Nat}(h1:1<=n)(hn:n<=7)(s0:Sl){R:List RP}(hL:qk n R)(hh:∀x∈R,x≠dW n):∀(B A:List RP)(s3 s4:Sl),R=A.reverse++B->∃s2' s3' K9,dH eB (B.map fun p=>.lst (aA p.1)) [s0,.val (.int n),.val (qT A),s3,s4]=.ok (.nx [s0,.val (.int n),s2',s3',K9])
 |[],A,s3,s4,_=>⟨_,s3,s4,rfl⟩
 |q::B,A,s3,s4,e=>by
  have mq:q∈R:=by rw[e];simp
  obtain⟨u4,e1⟩:=XC h1 hn s0 s4 (A:=A) (fun p hp=>hL.iv p (by rw[e];simp[hp])) (hL.iv q mq) (hL.ns q mq) (hh q mq) (fun p C ec=>hL.nb (A:=C.reverse) (B:=B) (by rw[e,ec];simp)) s3
  obtain⟨a,b,c,e2⟩:=Lb h1 hn s0 hL hh B (q::A) (.val (.lst (aA q.1))) u4 (by rw[e];simp)
  exact⟨a,b,c,by rw[map_cons,tm e1];exact e2⟩
theorem DQ{n:Nat}(h1:1<=n)(hn:n<=7){Z:List RP}{h:Int}(hL:qk n Z)(hh:∀x∈Z,x≠dW n)(h0:n=1->h=0):cA [.tup [.int h,.lst (Z.map fun p=>.lst (aA p.1))],.int n]=.ok (.bl true):=by
 unfold cA pG
 have a0:∀(x y:D),ju [x,y] 0=some x:=fun _ _=>rfl
 have a1:∀(x y:D),ju [x,y] 1=some y:=fun _ _=>rfl
 have t1:∀xs:List D,jv (xV (.lst xs)) "list"=true:=fun _=>rfl
 have t2:∀xs:List D,jv (xV (.tup xs)) "tuple"=true:=fun _=>rfl
 have t3:∀i:Int,jv (xV (.int i)) "int"=true:=fun _=>rfl
 have t4:∀i:Int,jv (xV (.int i)) "bool"=false:=fun _=>rfl
 simp -implicitDefEqProofs only [mS,mD,mF,eg,aG,reduceAdd,reduceSub,reduceEqDiff,reduceIte,aj,ak,aL,aM,aN,aO,t1,t2,Bool.not_true,a0,a1,t3,t4]
 have b2:((2:Int)==2)=true:=rfl
 have b3:(((2:Nat):Int)==2)=true:=rfl
 simp -implicitDefEqProofs only [reduceIte,aj,ak,aL,aM,aN,aO,b2,b3,Bool.not_true,a0,a1,t3,t4]
 obtain⟨s2,s3,s4,e⟩:=Lb h1 hn (.val (.tup [.int h,.lst (Z.map fun p=>.lst (aA p.1))])) hL hh Z [] .no .no rfl
 unfold qT at e
 by_cases c:n=1
 ·obtain rfl:=h0 c
  subst c
  simp -implicitDefEqProofs only [reduceIte,aj,ak,aL,aM,aN,aO,show(((1:Nat):Int)==1)=true from rfl,show((0:Int)==0)=true from rfl,Bool.not_true,a1,e]
 ·have c2:((n:Int)==1)=false:=beq_eq_false_iff_ne.mpr (by omega)
  simp -implicitDefEqProofs only [reduceIte,aj,ak,aL,aM,aN,aO,c2,a1,e]
theorem Lc(cells:List Int)(hc:cells.length<=63):∃t:List Int,t.length<=63/\cy (bT 2 (jR (bN 0) (jR (bN 1) yi))) pI kB (jQ 2 []) (eY (aA cells))=.ok (aA t):=by
 refine⟨(eY (aA cells)).map fun d=>match d with|.tup [.int k,.int c]=>C9 c k 16807|_=>0,by rw[length_map];unfold eY;rw[length_map,length_zipIdx,aR];exact hc,?_⟩
 rw[mO (fun d=>.int (match d with|.tup [.int k,.int c]=>C9 c k 16807|_=>0)) _ fun x hx=>by
  obtain⟨i,hi,e⟩:=getElem_of_mem hx
  obtain⟨y,hy,rfl⟩:=ue (i:=i) (d:=x) (by rw[getElem?_eq_getElem hi,e])
  have hz:(aA cells)[i]?=(cells[i]?).map D.int:=by unfold aA;rw[getElem?_map]
  have hi2:i<cells.length:=by
   have:(eY (aA cells)).length=cells.length:=by unfold eY;rw[length_map,length_zipIdx,aR]
   omega
  rw[hz,getElem?_eq_getElem hi2]at hy
  obtain rfl:=Option.some.inj hy
  refine⟨_,rfl,rfl,?_⟩
  unfold kB jQ
  simp -implicitDefEqProofs only [mS,mD,mF,eg,aG,reduceAdd,reduceSub,reduceEqDiff,reduceIte,aj,ak,aL,aM,aN,aO,List.append_eq]
  exact Dc _ _ _ (by omega) (by decide)]
 unfold aA
 rw[map_map]
 rfl
theorem NT{cells:List Int}{n:Int}(hc:cells.length<=63)(hn:1<=n):∃w:List Int,jz [.lst (aA cells),.int n,.int 12]=.ok (.lst (aA w))/\(∀k∈w,iH n k)/\w.length<=12:=by
 unfold jz uZ
 simp -implicitDefEqProofs only [mS,mD,mF,eg,aG,reduceAdd,reduceSub,reduceEqDiff,reduceIte,aj,ak,aL,aM,aN,aO]
 rw[vY,C4 _ _ (by decide),Ju _ _ _ (by rw[length_take];omega) (by omega) (by decide)]
 simp -implicitDefEqProofs only [reduceIte,aj,ak,aL,aM,aN,aO,aR]
 generalize hw:zK (cells.take (63:Int).toNat) n 189=w
 have hx:∀k∈w,iH n k:=hw▸Jt
 by_cases h:(w.length:Int)<=12
 ·refine⟨w,?_,hx,by omega⟩
  simp -implicitDefEqProofs only [reduceIte,aj,ak,aL,aM,aN,aO,h,decide_true]
 ·obtain⟨t,ht,e⟩:=Lc cells hc
  simp -implicitDefEqProofs only [reduceIte,aj,ak,aL,aM,aN,aO,h,decide_false,fO,e,R.kC]
  rw[fz (by omega)]
  simp -implicitDefEqProofs only [reduceIte,aj,ak,aL,aM,aN,aO,yM,wX,map_some,aR]
  rw[jE _ _ (by omega)]
  simp -implicitDefEqProofs only [reduceIte,aj,ak,aL,aM,aN,aO]
  have m0:=emod_nonneg t.sum (show(w.length:Int)-12+1≠0 by omega)
  have m1:=emod_lt_of_pos t.sum (show(0:Int)<(w.length:Int)-12+1 by omega)
  generalize t.sum%((w.length:Int)-12+1)=a at m0 m1
  rw[vY]
  refine⟨_,rfl,fun k hk=>hx k ?_,?_⟩
  ·unfold cut at hk
   exact List.mem_of_mem_drop (mem_of_mem_take hk)
  ·unfold cut
   rw[nC _ _ _ m0,nC _ _ _ (by omega),length_take]
   omega
theorem DR{n:Nat}{r s:List Int}(h:Iv n r s){a:Nat}(ha:a+1<n):bD [.lst (aA r),.int ((a:Int)+1)]=.ok (aA (nR r a)):=by
 unfold bD g8
 simp -implicitDefEqProofs only [mS,mD,mF,eg,aG,reduceAdd,reduceSub,reduceEqDiff,reduceIte,aj,ak,aL,aM,aN,aO]
 obtain⟨h1,h2,h3⟩:=h.sr a (by omega)
 obtain⟨g1,g2,g3⟩:=h.sr (a+1) ha
 have e1:=mZ h (v:=a) (by omega)
 have e2:=mZ h (v:=a+1) ha
 rw[show(((a+1:Nat)):Int)=(a:Int)+1 by omega]at e2 g3
 rw[show((a:Int)+1-1)=a by omega,e1]
 simp -implicitDefEqProofs only [reduceIte,aj,ak,aL,aM,aN,aO]
 rw[rP h1 (by rw[aR,h.lr];omega),zF]
 simp -implicitDefEqProofs only [reduceIte,aj,ak,aL,aM,aN,aO]
 rw[e2]
 simp -implicitDefEqProofs only [reduceIte,aj,ak,aL,aM,aN,aO]
 rw[rP g1 (by rw[aR,length_set,h.lr];omega),zF]
 simp -implicitDefEqProofs only [reduceIte,aj,ak,aL,aM,aN,aO]
 have el:(r.set (aa s a).toNat ((a:Int)+1)).set (aa s (a+1)).toNat a=nR r a:=by
  refine aT (by rw[length_set,length_set,r9]) fun p hp=>?_
  rw[length_set,length_set,h.lr]at hp
  obtain⟨p1,p2,p3⟩:=h.rs p hp
  rw[aU (by rw[h.lr];exact hp),pK (by rw[length_set,h.lr];exact hp),pK (by rw[h.lr];exact hp)]
  unfold sg
  by_cases c1:(aa s (a+1)).toNat=p
  ·rw[if_pos c1]
   rw[c1]at g3
   rw[if_neg (by omega),if_pos g3]
  ·rw[if_neg c1]
   by_cases c2:(aa s a).toNat=p
   ·rw[if_pos c2]
    rw[c2]at h3
    rw[if_pos h3]
   ·rw[if_neg c2,if_neg fun z=>c2 (by rw[z,toNat_natCast]at p3;omega),if_neg fun z=>c1 (by rw[z,show((a:Int)+1).toNat=a+1 by omega]at p3;omega)]
 rw[show((a:Int)+1-1)=a by omega,el,fQ]
 rfl
theorem Af{n:Nat}(hn:n<=7):∀(fuel:Nat)(r s w0:List Int)(a:Nat),Iv n r s->a+1<=n->(∀j,j<a->aa s j<=aa s (j+1))->(343-wsum 0 s)*8+(n-1-a:Nat)<fuel->w0.length+fuel<=10000->∃w s0 s2,iS gj cG fuel [.val (.lst (aA r)),.own (aA w0),.val (.int ((a:Int)+1))]=.ok (.nx [s0,.own (aA (w0++w)),s2])/\Wk n true w r s/\w.length<=fuel
 |0,r,s,w0,a,h,_,_,hf,_=>by
  have:=(h.ws hn).2
  omega
 |fuel+1,r,s,w0,a,h,ha,hd,hf,hl=>by
  unfold iS
  have ec:gj [.val (.lst (aA r)),.own (aA w0),.val (.int ((a:Int)+1))]=.ok (decide ((a:Int)+1<(n:Int))):=by
   unfold gj
   simp -implicitDefEqProofs only [mS,mD,mF,eg,aG,reduceAdd,reduceSub,reduceEqDiff,reduceIte,aj,ak,aL,aM,aN,aO,aR,h.lr]
  rw[ec,R.bg]
  by_cases hc:a+1<n
  ·rw[if_pos (decide_eq_true (by omega))]
   have e1:=mZ h (v:=a) (by omega)
   have e2:=mZ h (v:=a+1) hc
   rw[show(((a+1:Nat)):Int)=(a:Int)+1 by omega]at e2
   by_cases hf2:aa s (a+1)<aa s a
   ·obtain⟨w,s0,s2,e,hw,Us⟩:=Af hn fuel (nR r a) (dA s a) (w0++[(a:Int)+1]) 0 (h.step hc) (by omega) (fun j hj=>by omega) (by rw[xp _ _ _ (by rw[h.ls];exact hc)];omega) (by rw[length_append,length_cons,length_nil];omega)
    refine⟨((a:Int)+1)::w,s0,s2,?_,⟨a,rfl,hc,hf2,fun _=>hd,hw⟩,by rw[length_cons];omega⟩
    have eb:cG [.val (.lst (aA r)),.own (aA w0),.val (.int ((a:Int)+1))]=.ok (.nx [.val (.lst (aA (nR r a))),.own (aA (w0++[(a:Int)+1])),.val (.int 1)]):=by
     unfold cG
     simp -implicitDefEqProofs only [reduceIte,aj,ak,aL,aM,aN,aO]
     rw[show((a:Int)+1-1)=a by omega,e1,e2]
     simp -implicitDefEqProofs only [reduceIte,aj,ak,aL,aM,aN,aO,hf2,decide_true]
     rw[vZ (by rw[aR];omega),FI]
     simp -implicitDefEqProofs only [reduceIte,aj,ak,aL,aM,aN,aO]
     rw[DR h hc]
     simp -implicitDefEqProofs only [reduceIte,aj,ak,aL,aM,aN,aO]
    rw[eb,R.bg]
    rw[List.append_assoc]at e
    exact e
   ·obtain⟨w,s0,s2,e,hw,Us⟩:=Af hn fuel r s w0 (a+1) h (by omega) (fun j hj=>by
     by_cases Kf:j=a
     ·subst Kf;omega
     ·exact hd j (by omega)) (by omega) (by omega)
    refine⟨w,s0,s2,?_,hw,by omega⟩
    have eb:cG [.val (.lst (aA r)),.own (aA w0),.val (.int ((a:Int)+1))]=.ok (.nx [.val (.lst (aA r)),.own (aA w0),.val (.int (((a+1:Nat):Int)+1))]):=by
     unfold cG
     simp -implicitDefEqProofs only [reduceIte,aj,ak,aL,aM,aN,aO]
     rw[show((a:Int)+1-1)=a by omega,e1,e2]
     simp -implicitDefEqProofs only [reduceIte,aj,ak,aL,aM,aN,aO,hf2,decide_false]
     rfl
    rw[eb,R.bg]
    exact e
  ·rw[if_neg (by rw[decide_eq_true_eq];omega)]
   refine⟨[],.val (.lst (aA r)),.val (.int ((a:Int)+1)),?_,zL h fun j hj hlt=>?_,zero_le _⟩
   ·rw[append_nil]
   ·have:=hd j (by omega)
    omega
theorem Ld{n:Nat}{r s:List Int}(h:Iv n r s)(hn:1<=n/\n<=7):∃w,dD [.lst (aA r)]=.ok (aA w)/\Wk n true w r s/\w.length<=4000:=by
 unfold dD r6
 simp -implicitDefEqProofs only [mS,mD,mF,eg,aG,reduceAdd,reduceSub,reduceEqDiff,reduceIte,aj,ak,aL,aM,aN,aO]
 have:=(h.ws hn.2).1
 obtain⟨w,s0,s2,e,hw,hl⟩:=Af hn.2 4000 r s [] 0 h hn.1 (fun j hj=>by omega) (by omega) (by decide)
 rw[Ep,show(1:Int)=((0:Nat):Int)+1 from rfl,e]
 refine⟨w,?_,hw,hl⟩
 simp -implicitDefEqProofs only [reduceIte,aj,ak,aL,aM,aN,aO,fQ]
theorem Qe{n:Nat}(hn:1<=n/\n<=7){r:List Int}(h:aP n r):dD [.lst (aA r)]=.ok (aA (lu n r)):=by
 obtain⟨w,e,hw,_⟩:=Ld (hU h) hn
 rw[Qc h hw]
 exact e
def dw(rs:List (List Int)):List D:=rs.map fun r=>.lst (aA r)
def HR:D->Prop
 |.int _=>True
 |.bl _=>True
 |.str _=>True
 |.non=>True
 |_=>False
def UE:Nat->D->Prop
 |0,d=>HR d
 |n+1,d=>match d with
  |.lst xs=>∀x∈xs,UE n x
  |.tup xs=>∀x∈xs,UE n x
  |d=>HR d
theorem p7{d:D}(h:HR d):Og d d=some true:=by
 cases d<;>first|exact h.elim|simp[Og]
theorem uM{f:D->D->Option Bool}:∀(xs:List D),(∀x∈xs,f x x=some true)->qA f xs xs=some true
 |[],_=>rfl
 |x::xs,h=>by
  unfold qA
  rw[h x (by simp),uM xs fun y hy=>h y (by simp[hy])]
  rfl
theorem xQ:∀(n:Nat)(d:D),UE n d->uf n d d=some true
 |0,d,h=>p7 h
 |n+1,d,h=>by
  cases d with
  |lst xs=>
   unfold uf
   dsimp only
   rw[if_pos rfl]
   exact uM xs fun x hx=>xQ n x (h x hx)
  |tup xs=>
   unfold uf
   dsimp only
   rw[uM xs fun x hx=>xQ n x (h x hx)]
   simp
  |non=>exact p7 (d:=.non) h
  |bl b=>exact p7 (d:=(.bl b)) h
  |int i=>exact p7 (d:=(.int i)) h
  |str x=>exact p7 (d:=(.str x)) h
  |exc _=>exact h.elim
  |fn _=>exact h.elim
theorem NU(n:Nat)(ns:List Int):UE (n+1) (.lst (aA ns)):=fun x hx=>by
 obtain⟨i,_,rfl⟩:=mem_map.mp hx
 cases n<;>trivial
theorem NV(n:Nat)(M:List (List Int)):UE (n+2) (.lst (dw M)):=fun x hx=>by
 obtain⟨ns,_,rfl⟩:=mem_map.mp hx
 exact NU n ns
theorem G9(s0 s1 s2 s3:Sl)(k:Int):fA (.tup [.int k,.int k]) [s0,s1,s2,s3]=.ok (.nx [s0,s1,.val (.int k),.val (.int k)]):=by
 have t3:∀i:Int,jv (xV (.int i)) "int"=true:=fun _=>rfl
 have t4:∀i:Int,jv (xV (.int i)) "bool"=false:=fun _=>rfl
 unfold fA
 simp -implicitDefEqProofs only [Z3,mS,mD,mF,eg,aG,reduceAdd,reduceSub,reduceEqDiff,reduceIte,aj,ak,aL,aM,aN,aO,t3,t4,Bool.not_true,beq_self_eq_true]
theorem vm(s0 s1:Sl):∀(w:List Int)(s2 s3:Sl),∃t2 t3,dH fA (ye (aA w) (aA w)) [s0,s1,s2,s3]=.ok (.nx [s0,s1,t2,t3])
 |[],s2,s3=>⟨s2,s3,rfl⟩
 |k::w,s2,s3=>by
  obtain⟨t2,t3,e⟩:=vm s0 s1 w (.val (.int k)) (.val (.int k))
  refine⟨t2,t3,?_⟩
  rw[show ye (aA (k::w)) (aA (k::w))=.tup [.int k,.int k]::ye (aA w) (aA w)from rfl,tm (G9 s0 s1 s2 s3 k)]
  exact e
theorem zc(w:List Int):fW [.lst (aA w),.lst (aA w)]=.ok (.bl true):=by
 have t1:∀xs:List D,jv (xV (.lst xs)) "list"=true:=fun _=>rfl
 unfold fW qL
 simp -implicitDefEqProofs only [mS,mD,mF,eg,aG,reduceAdd,reduceSub,reduceEqDiff,reduceIte,aj,ak,aL,aM,aN,aO,t1,Bool.not_true,beq_self_eq_true,Rz]
 obtain⟨t2,t3,e⟩:=vm (.val (.lst (aA w))) (.val (.lst (aA w))) w .no .no
 rw[e]
 simp -implicitDefEqProofs only [reduceIte,aj,ak,aL,aM,aN,aO]
theorem NW(w:List Int)(hw:w.length<=1000):jx [.lst (aA w)]=.ok (aA (sZ w)):=by
 unfold jx uX
 simp -implicitDefEqProofs only [mS,mD,mF,eg,aG,reduceAdd,reduceSub,reduceEqDiff,reduceIte,aj,ak,aL,aM,aN,aO,fO,zG]
 rw[kD (fun k=> -k) w.reverse fun k _=>⟨_,fR _ _ _,rfl,by
  unfold pF jQ
  simp -implicitDefEqProofs only [reduceIte,aj,ak,aL,aM,aN,aO]⟩,R.kC,R.bg,fz (by rw[length_map,length_reverse];omega)]
 simp -implicitDefEqProofs only [reduceIte,aj,ak,aL,aM,aN,aO,fQ]
 rfl
theorem eq_self(h:Int)(rs:List (List Int)):uf 6 (.tup [.int h,.lst (dw rs)]) (.tup [.int h,.lst (dw rs)])=some true:=by
 rw[xQ]
 show∀x∈[_,_],UE 5 x
 intro x hx
 rcases mem_cons.mp hx with rfl|hx
 ·trivial
 ·rw[mem_singleton.mp hx]
  exact NV 3 rs
theorem Ci(h:Int)(rs:List (List Int)):Av (.tup [.int h,.lst (dw rs)]) (.tup [.int h,.lst (dw rs)])=some (.bl false):=by
 unfold Av
 rw[eq_self]
 rfl
theorem Cj(h:Int)(rs:List (List Int)):Au (.tup [.int h,.lst (dw rs)]) (.tup [.int h,.lst (dw rs)])=some (.bl true):=by
 unfold Au
 rw[eq_self]
 rfl
theorem Le{rs:List (List Int)}(h:rs.length<=1000):fit (dw rs)=.ok (dw rs):=pe (big (by unfold dw;rw[length_map];omega))
theorem zd{ct:DE->R Bool}{fe:DE->R D}(hc:∀e,ct e=.ok true)(hf:∀xs,fe [.val (.lst xs)]=.ok (.lst xs))(rs:List (List Int)):cy (bN 0) ct fe (jQ 1 []) (dw rs)=.ok (dw rs):=by
 rw[mO id _ fun x hx=>by
   obtain⟨r,hr,rfl⟩:=mem_map.mp hx
   exact⟨_,fR _ _ _,hc _,hf _⟩,map_id]
theorem Ha{n:Nat}(hn:n<=7):cy (bN 0) BO xx (jQ 1 [.int n]) (nK 0 n)=.ok (aA (upTo n).reverse):=by
 rw[rN]
 rw[kD (fun k=>(n:Int)-1-k) _ fun k _=>⟨_,fR _ _ _,rfl,by
  unfold xx jQ
  simp -implicitDefEqProofs only [mS,mD,mF,eg,aG,reduceAdd,reduceSub,reduceEqDiff,reduceIte,aj,ak,aL,aM,aN,aO]⟩]
 congr 2
 have hc:n=0\/n=1\/n=2\/n=3\/n=4\/n=5\/n=6\/n=7:=by omega
 rcases hc with rfl|rfl|rfl|rfl|rfl|rfl|rfl|rfl<;>decide
theorem Lf{n:Nat}(hn:1<=n/\n<=7)(s0 s1 s2 s3 s4 s5 s6 s7 sA sB:Sl):∀(rs:List (List Int))(w:List Int)(s9:Sl),(∀r∈rs,aP n r)->w.length+rs.length*21<=100000->∃XD,dH pN (dw rs) [s0,s1,s2,s3,s4,s5,s6,s7,.val (.lst (aA w)),s9,sA,sB]=.ok (.nx [s0,s1,s2,s3,s4,s5,s6,s7,.val (.lst (aA (w++(rs.map (lu n)).flatten))),XD,sA,sB])
 |[],w,s9,_,_=>⟨s9,by rw[map_nil,flatten_nil,append_nil];rfl⟩
 |r::rs,w,s9,hr,hl=>by
  have h1:=hr r (by simp)
  have l1:=uJ hn.2 h1
  rw[length_cons,succ_mul]at hl
  obtain⟨XD,e⟩:=Lf hn s0 s1 s2 s3 s4 s5 s6 s7 sA sB rs (w++lu n r) (.val (.lst (aA r))) (fun x hx=>hr x (by simp[hx])) (by rw[length_append];omega)
  refine⟨XD,?_⟩
  have eb:pN (.lst (aA r)) [s0,s1,s2,s3,s4,s5,s6,s7,.val (.lst (aA w)),s9,sA,sB]=.ok (.nx [s0,s1,s2,s3,s4,s5,s6,s7,.val (.lst (aA (w++lu n r))),.val (.lst (aA r)),sA,sB]):=by
   unfold pN
   simp -implicitDefEqProofs only [fR,mS,mD,mF,eg,aG,reduceAdd,reduceSub,reduceEqDiff,reduceIte,aj,ak,aL,aM,aN,aO,Qe hn h1]
   rw[qh,fz (by rw[length_append];omega)]
   simp -implicitDefEqProofs only [reduceIte,aj,ak,aL,aM,aN,aO]
  rw[show dw (r::rs)=.lst (aA r)::dw rs from rfl,tm eb,e,map_cons,flatten_cons,List.append_assoc]
theorem XE(ns:List Int)(hl:ns.length<=63):xy [.lst (aA ns)]=.ok (.bl true):=by
 have a0:∀(x y:D),ju [x,y] 0=some x:=fun _ _=>rfl
 have a1:∀(x y:D),ju [x,y] 1=some y:=fun _ _=>rfl
 unfold xy Pu
 simp -implicitDefEqProofs only [mS,mD,mF,eg,aG,reduceAdd,reduceSub,reduceEqDiff,reduceIte,aj,ak,aL,aM,aN,aO,IV]
 rw[show dg [.lst (aA ns),.int 0]=.ok (.int (aa ns 0))from NR ns 0]
 simp -implicitDefEqProofs only [reduceIte,aj,ak,aL,aM,aN,aO]
 rw[jE _ _ (by decide)]
 simp -implicitDefEqProofs only [reduceIte,aj,ak,aL,aM,aN,aO,Dg]
 generalize aa ns 0%1000000000=sd
 obtain⟨n1,n7⟩:=Bk sd
 generalize mR sd=n0 at n1 n7
 obtain⟨n,rfl⟩:∃n:Nat,n0=n:=⟨n0.toNat,by omega⟩
 have hn:1<=n/\n<=7:=by omega
 obtain⟨w,ew,hx,hw⟩:=NT (cells:=ns) (n:=n) hl (by omega)
 obtain⟨h,Z,ef,F,hv⟩:∃h Z,mj [.int n,.lst (aA w)]=.ok (.tup [.int h,.lst (Z.map fun p=>.lst (aA p.1))])/\YC n w h Z/\(2<=n->Cv n (h,Z)):=by
  by_cases c:2<=n
  ·obtain⟨e,F⟩:=G4 hn.2 c hx (by omega)
   exact⟨_,_,e,F,fun _=>sW hn.2 c w hx sX⟩
  ·obtain⟨h,Z,e,F,_⟩:=FE (n:=n) hn.1 hn.2 hx (by omega) (by
    obtain⟨bs,b1,b2,b3⟩:=y8 (n:=n) (w:=cC [] w) fun k hk=>by
     rcases sU w [] k hk with z|z
     ·cases z
     ·exact hx k z
    have:=p4 w []
    rw[length_nil]at this
    exact⟨bs,b1,by omega,b3⟩)
   exact⟨h,Z,e,F,fun z=>absurd z c⟩
 have hb:=F.bd
 have SR:=F.ll
 have h0:n=1->h=0/\w=[]:=fun e=>by
  subst e
  cases w with
  |nil=>simp -implicitDefEqProofs only [length_nil]at hb;exact⟨by omega,rfl⟩
  |cons k w=>have:=hx k (by simp);unfold iH at this;omega
 have zr:(Z.map fun p=>D.lst (aA p.1))=dw (Z.map (·.1)):=by unfold dw;rw[map_map];rfl
 have isf:∀g:Int,(n=1->g=0)->cA [.tup [.int g,.lst (dw (Z.map (·.1)))],.int n]=.ok (.bl true):=fun g hg=>by
  rw[<-zr]
  exact DQ hn.1 hn.2 F.ln F.nh hg
 have zY:∀r∈Z.map (·.1),aP n r:=fun r hr=>by
  obtain⟨p,hp,rfl⟩:=mem_map.mp hr
  exact og (F.ln.iv p hp)
 have hzl:(Z.map (·.1)).length<=12:=by rw[length_map];omega
 rw[zr]at ef
 simp -implicitDefEqProofs only [reduceIte,aj,ak,aL,aM,aN,aO,ew,ef,isf h fun e=>(h0 e).1,Bool.not_true]
 obtain⟨m,em,hm,hm1⟩:∃m:Int,(if decide (1<(n:Int))=true then(R.bind (R.bind (cR [.int sd,.int 7,.int 40692]) fun Jj=>R.of (qz Jj (.int 7))) fun Ht=>R.of (gZ Ht (.int 3)))else R.ok (D.int 0))=.ok (.int m)/\(-3<=m/\m<=3)/\(n=1->m=0):=by
  by_cases c:1<n
  ·rw[if_pos (decide_eq_true (by omega)),Dc _ _ _ (by decide) (by decide),R.bg,jE _ _ (by decide)]
   exact⟨_,rfl,by omega,fun z=>absurd z (by omega)⟩
  ·rw[if_neg (by rw[decide_eq_true_eq];omega)]
   exact⟨0,rfl,by omega,fun _=>rfl⟩
 rw[em]
 simp -implicitDefEqProofs only [reduceIte,aj,ak,aL,aM,aN,aO,a0,a1,fO,zd (ct:=BJ) (fe:=BK) (fun _=>rfl) (fun _=>rfl),zd (ct:=BL) (fe:=BN) (fun _=>rfl) (fun _=>rfl),R.kC,Le (show(Z.map (·.1)).length<=1000 by omega)]
 rw[Ry _ (by omega),toNat_natCast]
 simp -implicitDefEqProofs only [reduceIte,aj,ak,aL,aM,aN,aO,fO,Ha hn.2,R.kC]
 rw[fz (by rw[length_reverse,ai];omega)]
 have hh:aP n (upTo n).reverse:=(reverse_perm _).trans (kE n)
 simp -implicitDefEqProofs only [reduceIte,aj,ak,aL,aM,aN,aO,Qe hn hh,a0]
 have l1:=uJ hn.2 hh
 have hg1:n=1->h+m=0:=fun e=>by rw[(h0 e).1,hm1 e];rfl
 have f1:=(qx hn.2 (h:=h+m) zY).1
 have f2:=(qx hn.2 (h:=h+m) zY).2.1
 have f3:=(qx hn.2 (h:=h+m) zY).2.2
 have due:∀s7 s7' s9:Sl,∃XD,dH pN (dw (Z.map (·.1))) [.val (.lst (aA ns)),.val (.int sd),.val (.int n),.val (.tup [.int h,.lst (dw (Z.map (·.1)))]),.val (.int m),.val (.tup [.int (h+m),.lst (dw (Z.map (·.1)))]),.val (.tup [.int (h+m),.lst (dw (Z.map (·.1)))]),s7,.val (.lst (aA (tj n (h+m)).flatten)),s9,.no,.no]=.ok (.nx [.val (.lst (aA ns)),.val (.int sd),.val (.int n),.val (.tup [.int h,.lst (dw (Z.map (·.1)))]),.val (.int m),.val (.tup [.int (h+m),.lst (dw (Z.map (·.1)))]),.val (.tup [.int (h+m),.lst (dw (Z.map (·.1)))]),s7,.val (.lst (aA (kT n (h+m) (Z.map (·.1))))),XD,.no,.no]):=fun s7 _ s9=>Lf hn _ _ _ _ _ _ _ s7 _ _ _ _ s9 zY (by omega)
 have again:mj [.int n,.lst (aA (kT n (h+m) (Z.map (·.1))))]=.ok (.tup [.int (h+m),.lst (dw (Z.map (·.1)))]):=by
  by_cases c:2<=n
  ·obtain⟨e,_⟩:=zb hn.2 c f3 (by omega) (G7 hn.2 zY (m:=40) (by omega))
   rw[G5 hn.2 c (hv c) (h+m),zr]at e
   exact e
  ·have c1:n=1:=by omega
   have hw0:=(h0 c1).2
   have zn:Z=[]:=by
    rw[hw0]at SR
    exact List.eq_nil_of_length_eq_zero (by simpa using SR)
   subst zn
   have hg:=hg1 c1
   have w0:kT n (h+m) ([]:List (List Int))=[]:=by
    unfold kT tj
    rw[hg]
    rfl
   rw[map_nil,w0,hg]
   rw[hw0,(h0 c1).1]at ef
   exact ef
 have Yz:gK [.int n,.tup [.int (h+m),.lst (dw (Z.map (·.1)))]]=.ok (aA (kT n (h+m) (Z.map (·.1)))):=Ae hn zY (by omega)
 by_cases c:h+m<0
 ·simp -implicitDefEqProofs only [reduceIte,aj,ak,aL,aM,aN,aO,c,decide_true,NW _ (show(lu n (upTo n).reverse).length<=1000 by omega),a0]
  rw[wW _ _ (by
   refine⟨by omega,by omega,?_⟩
   rw[aR]
   unfold sZ
   rw[length_map,length_reverse]
   have:(lu n (upTo n).reverse).length*(-(h+m)).toNat<=21*100:=Nat.mul_le_mul l1 (by omega)
   exact big (by omega)),wy]
  have eh:(replicate (-(h+m)).toNat (sZ (lu n (upTo n).reverse))).flatten=(tj n (h+m)).flatten:=by unfold tj;rw[if_pos c]
  rw[eh]
  obtain⟨s9,e9⟩:=due (.own (aA (sZ (lu n (upTo n).reverse)))) .no .no
  simp -implicitDefEqProofs only [reduceIte,aj,ak,aL,aM,aN,aO,a1,e9,Yz,zc,Bool.not_true,Ci,again,isf (h+m) hg1,Cj]
 ·simp -implicitDefEqProofs only [reduceIte,aj,ak,aL,aM,aN,aO,c,decide_false,a0]
  rw[wW _ _ (by
   refine⟨by omega,by omega,?_⟩
   rw[aR]
   have:(lu n (upTo n).reverse).length*(h+m).toNat<=21*100:=Nat.mul_le_mul l1 (by omega)
   exact big (by omega)),wy]
  have eh:(replicate (h+m).toNat (lu n (upTo n).reverse)).flatten=(tj n (h+m)).flatten:=by unfold tj;rw[if_neg c]
  rw[eh]
  obtain⟨s9,e9⟩:=due (.own (aA (lu n (upTo n).reverse))) .no .no
  simp -implicitDefEqProofs only [reduceIte,aj,ak,aL,aM,aN,aO,a1,e9,Yz,zc,Bool.not_true,Ci,again,isf (h+m) hg1,Cj]
theorem T4{K:PySem.W.Frag}{H:Hp}{a:Addr}(ns:List Int)(hl:ns.length<=63)(hS:ck K H a (ns.map V.int)):D9 K Hs xy [.ref a] H (fun v _=>v=.bl true) fun _ _ _=>False:=Wv (XE ns hl) hS
end DL
namespace DL.pO
open PySem PySem.Spec PyProof.Rows L2 DL
section
variable{P:Program}{w:World}{K:PySem.W.Frag}{mg:Str->Option Value}{base:Heap}(t:Tb K mg)
theorem Hb:jD P w K mg base 1 t.pT t.pU ["word"] kq:=by
 have h:=nP (P:=P) (w:=w) (base:=base) (k:=0) Dq t.sH fun cdv A outer s H E hr=>
  (aZ (mK (oG (Gz (N:=["k"]) (nt:=1) (caps:=[]) (ae uy) ["word"] (by decide +kernel)) rfl (wN (iV t.i7 (nD 0))) (Kp.ok (uj (nt:=1) 0)) (fun _ _ _ _ _=>(tE 0 (by show Nodup (["k"]:List Str);decide +kernel))) (fun _ _ _ _ _=>Lp) (fun _ _ _ _ _=>(Il jC g4 (nB 0))))))
 exact h
theorem DS:jD P w K mg base 1 t.ql t.qm ["word"] mU:=by
 have h:=nP (P:=P) (w:=w) (base:=base) (k:=0) pP t.uA fun cdv A outer s H E hr=>
  (aD (lE 1 (rL bG) pP.nd)
  (aD (vz PassesOwn.never rfl (iL (nD 0)) (tE 2 pP.nd) (aZ (vR (yH (bB kj iR (PE.aF (iN cJ ed t.jT dQ (aE (nB 1) bC))) (PE.aF cI) (aK _)) (AY (bB (lZ (bu.u6 hr)) jd (PE.aF (Cr (nL 1) (PE.aF (Il jC g4 (PE.aF cI))))) (PE.aF (Il jC g4 (nB 2))) (aK _)))).pt (aZ (V8 1)) (aZ (I8 1 (nD 2))))))
  (aZ (wL 1))))
 exact h
theorem Ck:jD P w K mg base 1 t.iW t.iX ["n"] cS:=by
 have h:=nP (P:=P) (w:=w) (base:=base) (k:=0) zP t.fq fun cdv A outer s H E hr=>
  (aZ (mK (C0 rfl t.gI t.kc (aE (nB 0) bC))))
 exact h
theorem NX:jD P w K mg base 1 t.xG t.xH ["n"] rg:=by
 have h:=nP (P:=P) (w:=w) (base:=base) (k:=0) JX t.uB fun cdv A outer s H E hr=>
  (aZ (mK (MK rfl t.gI t.kc (aE (PE.aF (bx bz bw (nB 0) (PE.aF cI))) (aE (PE.aF (Il jC g4 (PE.aF cI))) (aE (PE.aF (Il jC g4 (PE.aF cI))) bC))))))
 exact h
theorem Ag:jD P w K mg base 1 t.gP t.gQ ["row"] b8:=by
 have h:=nP (P:=P) (w:=w) (base:=base) (k:=0) jh t.gR fun cdv A outer s H E hr=>
  (aD (lE 1 (VX (rL (aB cI bG)) (PE.aF (iN cJ ed t.jT dQ (aE (nB 0) bC)))) jh.nd)
  (aD (vz PassesOwn.never rfl (iE t.lU (nD 0)) (X8 2 rfl (lG (tE 2 jh.nd) (lG (tE 3 jh.nd) zE))) (aZ (rO 1 (nB 3) (nD 2))))
  (aZ (wL 1))))
 exact h
theorem Lg:jD P w K mg base 1 t.sI t.sJ ["row"] qi:=by
 have h:=nP (P:=P) (w:=w) (base:=base) (k:=0) GR t.qo fun cdv A outer s H E hr=>
  (aZ (mK (oG (Gz (N:=["k","row"]) (nt:=1) (caps:=[0]) (ae xB) ["row"] (by decide +kernel)) rfl (wN (iR2 t.kc (aE (PE.aF cI) (aE (PE.aF (iN cJ ed t.jT dQ (aE (nB 0) bC))) bC)))) (Kp.ok (uj (nt:=1) 0)) (fun _ _ _ _ _=>(tE 0 (by show Nodup (["k","row"]:List Str);decide +kernel))) (fun _ _ _ _ _=>(ts1 (bB kj iR (PE.aF (Cr (nL 1) (PE.aF (bx bz bw (nB 0) (PE.aF cI))))) (PE.aF (Cr (nL 1) (nB 0))) (aK _)))) (fun _ _ _ _ _=>(nD 0)))))
 exact h
theorem nk:jD P w K mg base 1 t.bh t.bj ["row","k"] aQ:=by
 have h:=nP (P:=P) (w:=w) (base:=base) (k:=0) mm t.aV fun cdv A outer s H E hr=>
  (aZ (mK (Ml (PE.AW (Ml (PE.AW (wJ (nL 0) XX (Gu (PE.aF (bx bz bw (nB 1) (PE.aF cI)))))) (PE.AW (rL (aB (Cr (nL 0) (nB 1)) (aB (Cr (nL 0) (PE.aF (bx bz bw (nB 1) (PE.aF cI)))) bG)))))) (PE.AW (wJ (nL 0) (Gu (PE.aF (bx gY cK (nB 1) (PE.aF cI)))) XX)))))
 exact h
theorem xR:jD P w K mg base 1 t.jj t.jk ["row"] fV:=by
 have h:=nP (P:=P) (w:=w) (base:=base) (k:=0) vH t.mr fun cdv A outer s H E hr=>
  (aZ (mK (oG (Gz (N:=["string","row"]) (nt:=1) (caps:=[0]) (ae kH) ["row"] (by decide +kernel)) rfl (wN (iV t.i7 (nD 0))) (Kp.ok (uj (nt:=1) 0)) (fun _ _ _ _ _=>(tE 0 (by show Nodup (["string","row"]:List Str);decide +kernel))) (fun _ _ _ _ _=>Lp) (fun _ _ _ _ _=>(bx bz bw (PE.aF (bx bz bw (PE.aF (iN cJ ed t.jT dQ (aE (nB 1) bC))) (PE.aF cI))) (nB 0))))))
 exact h
theorem DT:Ok P w K mg base 1 t.qp t.qq ["crossings"] mW:=by
 have h:=OQ (P:=P) (w:=w) (base:=base) (k:=0) lL t.gS fun cdv A outer s H E hr=>
  (aD (eU 1 cI lL.nd)
  (aD (vz PassesOwn.never rfl (iL (nD 0)) (tE 2 lL.nd) (aZ (OH 1 Wh (PE.aF (bx QJ MM (PE.aF cI) (PE.aF (bx bz bw (nB 2) (PE.aF cI))))) lL.nd)))
  (aZ (gU (nD 1)))))
 exact h
theorem Cm:Ok P w K mg base 1 t.iY t.i6 ["_law_cell","_law_k","_law_factor"] cR:=by
 have h:=OQ (P:=P) (w:=w) (base:=base) (k:=0) zQ t.kK fun cdv A outer s H E hr=>
  (aZ (gU (bx rA rJ (PE.aF (bx jB gg (PE.aF (bx CF zt (PE.aF (bx gY cK (PE.aF (bx gY cK (PE.aF (bx CF zt (PE.aF (bx jB gg (nB 0) (PE.aF cI))) (PE.aF cI))) (PE.aF (bx CF zt (nB 1) (nB 1))))) (PE.aF cI))) (nB 2))) (PE.aF cI))) (PE.aF cI))))
 exact h
theorem vK:Ok P w K mg base 1 t.ig t.ik ["_law_script","_law_k"] dg:=by
 have h:=OQ (P:=P) (w:=w) (base:=base) (k:=0) uz t.kL fun cdv A outer s H E hr=>
  (aD (vR (bB qG o9 (nB 1) (PE.aF (iN cJ ed t.jT dQ (aE (nB 0) bC))) (aK _)) (aZ (gU (Cr (nL 0) (nB 1)))) lY)
  (aZ (gU cI)))
 exact h
theorem vL:Ok P w K mg base 1 t.iA t.iB ["_law_seed","_law_least_here","_law_most"] eZ:=by
 have h:=OQ (P:=P) (w:=w) (base:=base) (k:=0) ng t.kM fun cdv A outer s H E hr=>
  (aD (vR (yH (bB (lZ (bu.u6 hr)) jd (nB 1) (PE.aF cI) (aK _)) (AY (bB (lZ (bu.u6 hr)) jd (PE.aF (bx jB gg (nB 0) (PE.aF cI))) (PE.aF cI) (aK _)))).pt (aZ (gU cI)) lY)
  (aD (eU 1 (iN (Gb rfl) Ir t.Px Ro (aE (PE.aF cI) (aE (nB 1) bC))) ng.nd)
  (aZ (gU (bx gY cK (nB 1) (PE.aF (bx jB gg (PE.aF (bx rA rJ (nB 0) (PE.aF cI))) (PE.aF (bx gY cK (PE.aF (bx bz bw (nB 2) (nB 1))) (PE.aF cI))))))))))
 exact h
theorem xS:Ok P w K mg base 1 t.jq t.jr ["_law_found","_law_due"] fW:=by
 have h:=OQ (P:=P) (w:=w) (base:=base) (k:=0) jI t.mz fun cdv A outer s H E hr=>
  (aD (vR (qX (rK (vx (PE.aF (yg zy lF t.bF t.gI (nB 0))))) (yc (bB (nM (bu.u6 hr)) jW (PE.aF (iN cJ ed t.jT dQ (aE (nB 0) bC))) (PE.aF (iN cJ ed t.jT dQ (aE (nB 1) bC))) (aK _)))).pt (aZ (gU Hn)) lY)
  (aD (vz PassesOwn.never rfl (iZ t.Py (aB (nD 0) (aB (nD 1) bG))) (X8 2 rfl (lG (tE 2 jI.nd) (lG (tE 3 jI.nd) zE))) (aZ (vR (qX (rK (vx (PE.aF (yg CW CY t.bF t.EZ (nB 2))))) (qX (vx (PE.aF (yg zx zA t.bF t.zV (nB 2)))) (yc (bB (nM (bu.u6 hr)) jW (nB 2) (nB 3) (aK _))))).pt (aZ (gU Hn)) lY)))
  (aZ (gU Hn))))
 exact h
theorem uN:Ok P w K mg base 1 t.gz t.gC ["_law_number","_law_n"] dJ:=by
 have h:=OQ (P:=P) (w:=w) (base:=base) (k:=0) lM t.jM fun cdv A outer s H E hr=>
  (aD (eU 2 (bx gY cK (PE.aF cI) (PE.aF (bx jB gg (nB 0) (PE.aF (bx bz bw (nB 1) (PE.aF cI)))))) lM.nd)
  (aD (vR (bB (lZ (bu.u6 hr)) jd (PE.aF (bx jB gg (PE.aF (bx rA rJ (nB 0) (PE.aF cI))) (PE.aF cI))) (PE.aF cI) (aK _)) (aZ (gU (Il jC g4 (nB 2)))) lY)
  (aZ (gU (nD 2)))))
 exact h
theorem nq:jD P w K mg base 1 t.bX t.bY ["_law_row","_law_k"] bD:=by
 have h:=nP (P:=P) (w:=w) (base:=base) (k:=0) f9 t.dE fun cdv A outer s H E hr=>
  (aD (lE 2 (AZ t.gI (nL 0)) f9.nd)
  (aD (rO 2 (PE.aF (uk (nL 0) (PE.aF (bx bz bw (nB 1) (PE.aF cI))))) (nD 1))
  (aD (rO 2 (PE.aF (uk (nL 0) (nB 1))) (bx bz bw (nB 1) (PE.aF cI)))
  (aZ (wL 2)))))
 exact h
theorem Ah:jD P w K mg base 1 t.lS t.lT ["_law_word"] jx:=by
 have h:=nP (P:=P) (w:=w) (base:=base) (k:=0) yr t.pZ fun cdv A outer s H E hr=>
  (aZ (mK (oG (Gz (N:=["_law_k"]) (nt:=1) (caps:=[]) (ae nW) ["_law_word"] (by decide +kernel)) rfl (wN (iV t.i7 (nD 0))) (Kp.ok (uj (nt:=1) 0)) (fun _ _ _ _ _=>(tE 0 (by show Nodup (["_law_k"]:List Str);decide +kernel))) (fun _ _ _ _ _=>Lp) (fun _ _ _ _ _=>(Il jC g4 (nB 0))))))
 exact h
theorem vM:Ok P w K mg base 1 t.iC t.iD ["_law_found","_law_n"] cA:=by
 have h:=OQ (P:=P) (w:=w) (base:=base) (k:=0) dq t.iF fun cdv A outer s H E hr=>
  (aD (vR (qX (rK (vx (PE.aF (yg IK A8 t.bF t.zW (nB 0))))) (qX (bB (nM (bu.u6 hr)) jW (PE.aF (iN cJ ed t.jT dQ (aE (nB 0) bC))) (PE.aF cI) (aK _)) (yc (rK (vx (PE.aF (yg zy lF t.bF t.gI (PE.aF (wK (nD 0) (PE.aF cI)))))))))).pt (aZ (gU Hn)) lY)
  (aD (vR (qX (rK (vx (PE.aF (yg CW CY t.bF t.EZ (PE.aF (wK (nD 0) (PE.aF cI))))))) (qX (vx (PE.aF (yg zx zA t.bF t.zV (PE.aF (wK (nD 0) (PE.aF cI)))))) (yc (yH (bB (lZ (bu.u6 hr)) jd (nB 1) (PE.aF cI) (aK _)) (AY (bB (nM (bu.u6 hr)) jW (PE.aF (wK (nD 0) (PE.aF cI))) (PE.aF cI) (aK _)))).pt))).pt (aZ (gU Hn)) lY)
  (aD (eU 2 cN dq.nd)
  (aD (vz PassesOwn.never rfl (iL (wK (nD 0) (PE.aF cI))) (tE 3 dq.nd) (aD (vR (qX (rK (vx (PE.aF (yg zy lF t.bF t.gI (nB 3))))) (yc (bB (nM (bu.u6 hr)) jW (PE.aF (PE.dz (oG (Gz (N:=["_law_s"]) (nt:=1) (caps:=[]) (ae jJ) ["_law_found","_law_n","_law_last","_law_row","_law_k"] (by decide +kernel)) rfl (wN (iL (nD 3))) (Kp.ok (uj (nt:=1) 0)) (fun _ _ _ _ _=>(tE 0 (by show Nodup (["_law_s"]:List Str);decide +kernel))) (fun _ _ _ _ _=>(ts1 (qX (rK (vx (PE.aF (yg CW CY t.bF t.EZ (nB 0))))) (yc (vx (PE.aF (yg zx zA t.bF t.zV (nB 0)))))).pt)) (fun _ _ _ _ _=>(nD 0))))) (PE.aF (PE.dz (rL bG))) (aK _)))).pt (aZ (gU Hn)) lY)
  (aD (vR (qX (bB (nM (bu.u6 hr)) jW (PE.aF (PE.dz (MH t.BQ (nL 3)))) (PE.aF (PE.dz (C0 rfl t.gI t.kc (aE (nB 1) bC)))) (aK _)) (qX (bB (lZ (bu.u6 hr)) jd (nB 3) (PE.aF (PE.dz (C0 rfl t.gI t.kc (aE (nB 1) bC)))) (aK _)) (yc (bB (lZ (bu.u6 hr)) jd (nB 3) (PE.aF (PE.dz (RW rfl t.gI t.i7 t.kc (aE (nB 1) bC)))) (aK _))))).pt (aZ (gU Hn)) lY)
  (aD (vz PassesOwn.never rfl (iR2 t.kc (aE (PE.aF cI) (aE (nB 1) bC))) (tE 4 dq.nd) (aZ (vR (yH (bB LW IP (nB 2) (PE.aF cN) (aK _)) (yH (bB kj iR (PE.aF (uk (nL 3) (PE.aF (bx bz bw (nB 4) (PE.aF cI))))) (PE.aF (uk (nL 3) (nB 4))) (aK _)) (AY (bB qG o9 (PE.aF (wK (nD 2) (PE.aF (bx bz bw (nB 4) (PE.aF cI))))) (PE.aF (wK (nD 2) (nB 4))) (aK _))))).pt (aZ (gU Hn)) lY)))
  (aZ (eU 2 (nD 3) dq.nd))))))
  (aZ (gU Hn))))))
 exact h
theorem Hc(cg:jD P w K mg base 1 t.gP t.gQ ["row"] b8)(qu:jD P w K mg base 1 t.sI t.sJ ["row"] qi):jD P w K mg base 2 t.pV t.pW ["row"] ky:=by
 have h:=nP (P:=P) (w:=w) (base:=base) (k:=1) Dr t.kJ fun cdv A outer s H E hr=>
  (aZ (mK (uh t.qo qu (hr.mono (by decide)) (aB (PE.dz (uh t.gR cg (hr.mono (by decide)) (aB (nD 0) bG))) bG))))
 exact h
theorem ou(cg:jD P w K mg base 1 t.gP t.gQ ["row"] b8)(aW:jD P w K mg base 1 t.bh t.bj ["row","k"] aQ):jD P w K mg base 2 t.bJ t.bK ["row","k"] bq:=by
 have h:=nP (P:=P) (w:=w) (base:=base) (k:=1) nc t.br fun cdv A outer s H E hr=>
  (aZ (mK (uh t.gR cg (hr.mono (by decide)) (aB (PE.dz (uh t.aV aW (hr.mono (by decide)) (aB (PE.dz (uh t.gR cg (hr.mono (by decide)) (aB (nD 0) bG))) (aB (nD 1) bG)))) bG))))
 exact h
theorem Hd(fx:jD P w K mg base 1 t.iW t.iX ["n"] cS)(aW:jD P w K mg base 1 t.bh t.bj ["row","k"] aQ):jD P w K mg base 2 t.sL t.sM ["n","word"] mX:=by
 have h:=nP (P:=P) (w:=w) (base:=base) (k:=1) nU t.sN fun cdv A outer s H E hr=>
  (aD (lE 2 (uh t.fq fx (hr.mono (by decide)) (aB (nD 0) bG)) nU.nd)
  (aD (vz PassesOwn.never rfl (iL (nD 1)) (tE 3 nU.nd) (aD (vR (bB qG o9 (nB 3) (PE.aF cI) (aK _)) (aZ Wa) lY)
  (aD (vR (bB kj iR (PE.aF (Cr (nL 2) (PE.aF (bx bz bw (nB 3) (PE.aF cI))))) (PE.aF (Cr (nL 2) (nB 3))) (aK _)) (aZ Wa) lY)
  (aZ (lE 2 (Rw Z2 t.aV aW (hr.mono (by decide)) (aE (nB 2) (aE (nB 3) bC))) nU.nd)))))
  (aZ (wL 2))))
 exact h
theorem Lh(cg:jD P w K mg base 1 t.gP t.gQ ["row"] b8):jD P w K mg base 2 t.wm t.wo ["row"] rZ:=by
 have h:=nP (P:=P) (w:=w) (base:=base) (k:=1) GU t.zR fun cdv A outer s H E hr=>
  (aZ (mK (oG (Gz (N:=["place","row"]) (nt:=1) (caps:=[0]) (ae xC) ["row"] (by decide +kernel)) rfl (wN (iL (PE.dz (uh t.gR cg (hr.mono (by decide)) (aB (nD 0) bG))))) (Kp.ok (uj (nt:=1) 0)) (fun _ _ _ _ _=>(tE 0 (by show Nodup (["place","row"]:List Str);decide +kernel))) (fun _ _ _ _ _=>Lp) (fun _ _ _ _ _=>(bx bz bw (PE.aF (bx bz bw (PE.aF (iN cJ ed t.jT dQ (aE (nB 1) bC))) (PE.aF cI))) (nB 0))))))
 exact h
theorem T5(fx:jD P w K mg base 1 t.iW t.iX ["n"] cS):Uo P w K mg base 2 t.ET t.EU ["n","word"] Bt:=by
 have h:=okT (P:=P) (w:=w) (base:=base) (k:=1) jZ t.J0 fun cdv A outer s H E hr=>
  (aD (Pb 2 O9 jZ.nd)
  (aD (lE 3 (uh t.fq fx (hr.mono (by decide)) (aB (nD 0) bG)) jZ.nd)
  (aD (eU 4 Hn jZ.nd)
  (aD (vz PassesOwn.never rfl (iL (nD 1)) (tE 5 jZ.nd) (aD (eU 6 (iN wB zw t.EY CZ (aE (nB 5) bC)) jZ.nd)
  (aD (vR (qX (bB (lZ (bu.u6 hr)) jd (PE.aF (iN cJ ed t.jT dQ (aE (nB 2) bC))) (PE.aF cI) (aK _)) (qX (bB (nM (bu.u6 hr)) jW (nB 4) (PE.aF (Q3 kj iR (nB 5) (PE.aF cI) (aK _))) (aK _)) (yc (bB kj iR (PE.aF (Cr (nL 3) (PE.aF (bx bz bw (nB 6) (PE.aF cI))))) (PE.aF (Cr (nL 3) (nB 6))) (aK _))))).pt (aD (Pe 2 (rL bG))
  (aD (lE 3 (uh t.fq fx (hr.mono (by decide)) (aB (nD 0) bG)) jZ.nd)
  (aZ (eU 4 (Q3 kj iR (nB 5) (PE.aF cI) (aK _)) jZ.nd)))) lY)
  (aD (RO 2 (PE.aF (Il jC g4 (PE.aF cI))) (nB 5))
  (aD (eU 7 (Cr (nL 3) (nB 6)) jZ.nd)
  (aD (rO 3 (nB 6) (Cr (nL 3) (PE.aF (bx bz bw (nB 6) (PE.aF cI)))))
  (aZ (rO 3 (PE.aF (bx bz bw (nB 6) (PE.aF cI))) (nD 7)))))))))
  (aZ (Pd 2))))))
 exact h
theorem xT(mB:jD P w K mg base 1 t.jj t.jk ["row"] fV):jD P w K mg base 2 t.jn t.jo ["halves","row"] fX:=by
 have h:=nP (P:=P) (w:=w) (base:=base) (k:=1) vJ t.my fun cdv A outer s H E hr=>
  (aD (vR (bB (lZ (bu.u6 hr)) jd (PE.aF (bx jB gg (nB 0) (PE.aF cI))) (PE.aF cI) (aK _)) (aZ (mK (AZ t.gI (nL 1)))) lY)
  (aZ (mK (uh t.mr mB (hr.mono (by decide)) (aB (nD 1) bG)))))
 exact h
theorem yu(jN:Ok P w K mg base 1 t.gz t.gC ["_law_number","_law_n"] dJ):Ok P w K mg base 2 t.j0 t.j3 ["_law_number","_law_n"] g5:=by
 have h:=Uk (P:=P) (w:=w) (base:=base) (k:=1) kI t.n8 fun cdv A outer s H E hr=>
  (aD (eU 2 (Mw MB t.jM jN (hr.mono (by decide)) (aE (nB 0) (aE (nB 1) bC))) kI.nd)
  (aD (vR (qX (bB kj iR (PE.aF (bx jB gg (PE.aF (bx rA rJ (nB 0) (PE.aF cI))) (PE.aF cI))) (PE.aF cI) (aK _)) (yc (bB qG o9 (nB 1) (PE.aF cI) (aK _)))).pt (aZ (gU (PE.dz (rL (aB (nD 2) bG))))) lY)
  (aD (eU 3 (vIf (yH (bB qG o9 (PE.aF (iN wB zw t.EY CZ (aE (PE.aF (bx gY cK (nB 2) (PE.aF cI))) bC))) (nB 1) (aK _)) (AY (bB (nM (bu.u6 hr)) jW (PE.aF (bx gY cK (nB 2) (PE.aF cI))) (PE.aF cI) (aK _)))).pt (bx gY cK (nB 2) (PE.aF cI)) (bx bz bw (nB 2) (PE.aF cI))) kI.nd)
  (aZ (gU (Cr (PE.AW (rL (aB (PE.dz (rL (aB (nD 2) (aB (nD 3) (aB (nD 2) bG))))) (aB (PE.dz (rL (aB (nD 2) (aB (nD 3) bG)))) (aB (PE.dz (rL (aB (nD 2) (aB (nD 2) bG)))) (aB (PE.dz (rL (aB (nD 2) (aB (Il jC g4 (nB 3)) (aB (nD 2) bG))))) bG)))))) (PE.aF (bx jB gg (PE.aF (bx rA rJ (nB 0) (PE.aF cI))) (PE.aF cI)))))))))
 exact h
theorem yv(dF:jD P w K mg base 1 t.bX t.bY ["_law_row","_law_k"] bD):jD P w K mg base 2 t.j7 t.j8 ["_law_row"] dD:=by
 have h:=nP (P:=P) (w:=w) (base:=base) (k:=1) dm t.j9 fun cdv A outer s H E hr=>
  (aD (lE 1 (rL bG) dm.nd)
  (aD (eU 2 cI dm.nd)
  (aD (IB (fun _=>4000) PassesOwn.never (bB qG o9 (nB 2) (PE.aF (iN cJ ed t.jT dQ (aE (nB 0) bC))) (aK _)) (aZ (vR (bB kj iR (PE.aF (uk (nL 0) (PE.aF (bx bz bw (nB 2) (PE.aF cI))))) (PE.aF (uk (nL 0) (nB 2))) (aK _)) (aD (I8 1 (nD 2))
  (aD (eU 0 (PE.dz (uh t.dE dF (hr.mono (by decide)) (aB (nD 0) (aB (nD 2) bG)))) dm.nd)
  (aZ (eU 2 cI dm.nd)))) (aZ (eU 2 (bx gY cK (nB 2) (PE.aF cI)) dm.nd)))))
  (aZ (wL 1)))))
 exact h
theorem Cn(kN:jD P w K mg base 2 t.pV t.pW ["row"] ky)(cD:jD P w K mg base 2 t.bJ t.bK ["row","k"] bq):jD P w K mg base 3 t.nX t.nY ["row"] gG:=by
 have h:=nP (P:=P) (w:=w) (base:=base) (k:=2) fG t.nZ fun cdv A outer s H E hr=>
  (aD (lE 1 (rL bG) fG.nd)
  (aD (eU 2 (PE.dz (AZ t.gI (nL 0))) fG.nd)
  (aD (eU 3 (PE.dz (uh t.kJ kN (hr.mono (by decide)) (aB (nD 2) bG))) fG.nd)
  (aD (IB (fun _=>400) PassesOwn.never (bB kj iR (PE.aF (iN cJ ed t.jT dQ (aE (nB 3) bC))) (PE.aF cI) (aK _)) (aD (I8 1 (Cr (nL 3) (PE.aF cI)))
  (aD (eU 2 (PE.dz (uh t.br cD (hr.mono (by decide)) (aB (nD 2) (aB (Cr (nL 3) (PE.aF cI)) bG)))) fG.nd)
  (aZ (eU 3 (PE.dz (uh t.kJ kN (hr.mono (by decide)) (aB (nD 2) bG))) fG.nd)))))
  (aZ (wL 1))))))
 exact h
theorem xU(Ai:jD P w K mg base 2 t.wm t.wo ["row"] rZ):Ok P w K mg base 3 t.jl t.jm ["row"] jg:=by
 have h:=Uk (P:=P) (w:=w) (base:=base) (k:=2) vI t.mw fun cdv A outer s H E hr=>
  (aZ (gU (Ip (aB (Il jC g4 (PE.aF cI)) (aB (PE.dz (uh t.zR Ai (hr.mono (by decide)) (aB (nD 0) bG))) bG)))))
 exact h
theorem oX(mC:jD P w K mg base 2 t.jn t.jo ["halves","row"] fX):Uo P w K mg base 3 t.cP t.cQ ["steps"] bc:=by
 have h:=okT (P:=P) (w:=w) (base:=base) (k:=2) bE t.bR fun cdv A outer s H E hr=>
  (aD (Pb 1 O9 bE.nd)
  (aD (eU 2 cI bE.nd)
  (aD (vz PassesOwn.never rfl (iV t.i7 (nD 0)) (tE 3 bE.nd) (aD (Pe 1 (uh t.my mC (hr.mono (by decide)) (aB (nD 2) (aB (wK (nD 3) (PE.aF cI)) bG))))
  (aZ (OH 2 HJ (PE.aF (wK (nD 3) (PE.aF cI))) bE.nd))))
  (aD (Wj 1)
  (aZ (Pd 1))))))
 exact h
theorem yw(dG:Ok P w K mg base 1 t.iY t.i6 ["_law_cell","_law_k","_law_factor"] cR)(oy:Ok P w K mg base 2 t.j0 t.j3 ["_law_number","_law_n"] g5):jD P w K mg base 3 t.j5 t.j6 ["_law_cells","_law_n","_law_most"] g6:=by
 have h:=nP (P:=P) (w:=w) (base:=base) (k:=2) fj t.n9 fun cdv A outer s H E hr=>
  (aD (eU 3 (PE.dz (rL bG)) fj.nd)
  (aD (vz PassesOwn.never rfl (iE t.lU (nD 0)) (X8 2 rfl (lG (tE 4 fj.nd) (lG (tE 5 fj.nd) zE))) (aZ (vR (bB kj iR (nB 1) (PE.aF cI) (aK _)) (aZ (eU 3 (PE.dz (Ml (nL 3) (PE.Zp (Oi t.n8 oy (hr.mono (by decide)) (aB (Mw MB t.kK dG (hr.mono (by decide)) (aE (nB 5) (aE (nB 4) (aE (PE.aF cI) bC)))) (aB (nD 1) bG)))))) fj.nd)) lY)))
  (aZ (mK (wJ (nL 3) XX (Gu (nB 2)))))))
 exact h
theorem Aj(nv:jD P w K mg base 1 t.pT t.pU ["word"] kq)(Ak:jD P w K mg base 1 t.xG t.xH ["n"] rg)(oA:jD P w K mg base 3 t.nX t.nY ["row"] gG):jD P w K mg base 4 t.lN t.lP ["n","form"] gK:=by
 have h:=nP (P:=P) (w:=w) (base:=base) (k:=3) fZ t.pX fun cdv A outer s H E hr=>
  (aD (lE 2 (uh t.nZ oA (hr.mono (by decide)) (aB (PE.dz (uh t.uB Ak (hr.mono (by decide)) (aB (nD 0) bG))) bG)) fZ.nd)
  (aD (vR (bB qG o9 (PE.aF (wK (nD 1) (PE.aF cI))) (PE.aF cI) (aK _)) (aZ (lE 3 (VX (Rw Z2 t.sH nv (hr.mono (by decide)) (aE (nB 2) bC)) (PE.aF (Il jC g4 (PE.aF (wK (nD 1) (PE.aF cI)))))) fZ.nd)) (aZ (lE 3 (Pf (mNm 2) (PE.aF (wK (nD 1) (PE.aF cI)))) fZ.nd)))
  (aD (vz PassesOwn.never rfl (iL (wK (nD 1) (PE.aF cI))) (tE 4 fZ.nd) (aZ (V9 3 (uh t.nZ oA (hr.mono (by decide)) (aB (nD 4) bG)))))
  (aZ (wL 3)))))
 exact h
theorem DU(nv:jD P w K mg base 1 t.pT t.pU ["word"] kq)(tw:jD P w K mg base 2 t.sL t.sM ["n","word"] mX)(mE:Ok P w K mg base 3 t.jl t.jm ["row"] jg):Ok P w K mg base 4 t.qr t.qt ["n","piece"] mY:=by
 have h:=Uk (P:=P) (w:=w) (base:=base) (k:=3) BP t.uC fun cdv A outer s H E hr=>
  (aD (vR (bB kj iR (PE.aF (Cr (nL 1) (PE.aF cI))) (PE.aF cI) (aK _)) (aZ (gU (Ip (aB cI (aB (PE.dz (uh t.sN tw (hr.mono (by decide)) (aB (nD 0) (aB (nD 1) bG)))) bG))))) lY)
  (aZ (gU (Oi t.mw mE (hr.mono (by decide)) (aB (PE.dz (uh t.sN tw (hr.mono (by decide)) (aB (nD 0) (aB (PE.dz (uh t.sH nv (hr.mono (by decide)) (aB (nD 1) bG))) bG)))) bG)))))
 exact h
theorem Al(dG:Ok P w K mg base 1 t.iY t.i6 ["_law_cell","_law_k","_law_factor"] cR)(oB:jD P w K mg base 3 t.j5 t.j6 ["_law_cells","_law_n","_law_most"] g6):Ok P w K mg base 4 t.lQ t.lR ["_law_cells","_law_n","_law_most"] jz:=by
 have h:=Uk (P:=P) (w:=w) (base:=base) (k:=3) ji t.pY fun cdv A outer s H E hr=>
  (aD (eU 3 (PE.dz (uh t.n9 oB (hr.mono (by decide)) (aB (PE.dz (wJ (nL 0) XX (Gu (PE.aF cI)))) (aB (nD 1) (aB cI bG))))) ji.nd)
  (aD (vR (bB U6 Q4 (PE.aF (iN cJ ed t.jT dQ (aE (nB 3) bC))) (nB 2) (aK _)) (aZ (gU (nD 3))) lY)
  (aD (eU 4 (Wb rfl t.J2 (PE.AW (oG (Gz (N:=["_law_k","_law_cell"]) (nt:=2) (caps:=[]) (ae nV) ["_law_cells","_law_n","_law_most","_law_word","_law_total","_law_at"] (by decide +kernel)) rfl (wN (iE t.lU (nD 0))) (Kp.ok (Z1 2 (En (uj (nt:=2) 0) (En (uj (nt:=2) 1) RD)))) (fun _ _ _ _ _=>(X8 2 rfl (lG (tE 0 (by show Nodup (["_law_k","_law_cell"]:List Str);decide +kernel)) (lG (tE 1 (by show Nodup (["_law_k","_law_cell"]:List Str);decide +kernel)) zE)))) (fun _ _ _ _ _=>Lp) (fun _ _ _ _ _=>(Mw MB t.kK dG (hr.mono (by decide)) (aE (nB 1) (aE (nB 0) (aE (PE.aF cI) bC)))))))) ji.nd)
  (aD (eU 5 (bx jB gg (nB 4) (PE.aF (bx gY cK (PE.aF (bx bz bw (PE.aF (iN cJ ed t.jT dQ (aE (nB 3) bC))) (nB 2))) (PE.aF cI)))) ji.nd)
  (aZ (gU (PE.dz (wJ (nL 3) (Gu (nB 5)) (Gu (PE.aF (bx gY cK (nB 5) (nB 2))))))))))))
 exact h
theorem uO(uP:jD P w K mg base 1 t.ql t.qm ["word"] mU)(Li:Uo P w K mg base 2 t.ET t.EU ["n","word"] Bt)(uQ:Ok P w K mg base 4 t.qr t.qt ["n","piece"] mY):Ok P w K mg base 5 t.gx t.gy ["n","word"] dM:=by
 have h:=Uk (P:=P) (w:=w) (base:=base) (k:=4) sG t.jL fun cdv A outer s H E hr=>
  (aZ (gU (PE.dz (oG (Gz (N:=["piece","n"]) (nt:=1) (caps:=[0]) (ae iU) ["n","word"] (by decide +kernel)) rfl (iLS (PE.aah (fT1 t.J0 Li (hr.mono (by decide)) (aE (nB 0) (aE (PE.aF (PE.dz (uh t.uA uP (hr.mono (by decide)) (aB (nD 1) bG)))) bC))))) (Kp.ok (uj (nt:=1) 0)) (fun _ _ _ _ _=>(tE 0 (by show Nodup (["piece","n"]:List Str);decide +kernel))) (fun _ _ _ _ _=>Lp) (fun _ _ _ _ _=>(Oi t.uC uQ (hr.mono (by decide)) (aB (nD 1) (aB (nD 0) bG))))))))
 exact h
theorem NY(jO:Ok P w K mg base 9 t.gu t.gw ["n","steps"] dN)(jP:Ok P w K mg base 5 t.gx t.gy ["n","word"] dM):Ok P w K mg base 10 t.zS t.zT ["n","word"] mj:=by
 have h:=Uk (P:=P) (w:=w) (base:=base) (k:=9) JZ t.zU fun cdv A outer s H E hr=>
  (aZ (gU (Oi t.jK jO (hr.mono (by decide)) (aB (nD 0) (aB (Oi t.jL jP (hr.mono (by decide)) (aB (nD 0) (aB (nD 1) bG))) bG)))))
 exact h
theorem T6(p8:jD P w K mg base 4 t.lN t.lP ["n","form"] gK)(Am:Ok P w K mg base 10 t.zS t.zT ["n","word"] mj)(dG:Ok P w K mg base 1 t.iY t.i6 ["_law_cell","_law_k","_law_factor"] cR)(kU:Ok P w K mg base 1 t.ig t.ik ["_law_script","_law_k"] dg)(kW:Ok P w K mg base 1 t.iA t.iB ["_law_seed","_law_least_here","_law_most"] eZ)(mG:Ok P w K mg base 1 t.jq t.jr ["_law_found","_law_due"] fW)(p9:Ok P w K mg base 4 t.lQ t.lR ["_law_cells","_law_n","_law_most"] jz)(kg:jD P w K mg base 2 t.j7 t.j8 ["_law_row"] dD)(qc:jD P w K mg base 1 t.lS t.lT ["_law_word"] jx)(iG:Ok P w K mg base 1 t.iC t.iD ["_law_found","_law_n"] cA):Ok P w K mg base 11 t.J1 t.EV ["_law_script"] xy:=by
 have h:=OQ (P:=P) (w:=w) (base:=base) (k:=10) eM t.Pw fun cdv A outer s H E hr=>
  (aD (eU 1 (bx jB gg (PE.aF (Mw MB t.kL kU (hr.mono (by decide)) (aE (nB 0) (aE (PE.aF cI) bC)))) (PE.aF (bx QI Mi (PE.aF cI) (PE.aF cI)))) eM.nd)
  (aD (eU 2 (Mw MB t.kM kW (hr.mono (by decide)) (aE (nB 1) (aE (PE.aF cI) (aE (PE.aF cI) bC)))) eM.nd)
  (aD (eU 3 (Oi t.zU Am (hr.mono (by decide)) (aB (nD 2) (aB (Oi t.pY p9 (hr.mono (by decide)) (aB (nD 0) (aB (nD 2) (aB cI bG)))) bG))) eM.nd)
  (aD (vR (rK (vx (PE.aF (Mw MB t.iF iG (hr.mono (by decide)) (aE (nB 3) (aE (nB 2) bC)))))) (aZ (gU Hn)) lY)
  (aD (eU 4 (vIf (bB kj iR (nB 2) (PE.aF cI) (aK _)) (bx bz bw (PE.aF (bx jB gg (PE.aF (Mw MB t.kK dG (hr.mono (by decide)) (aE (nB 1) (aE (PE.aF cI) (aE (PE.aF cI) bC))))) (PE.aF cI))) (PE.aF cI)) cI) eM.nd)
  (aD (eU 5 (Ip (aB (bx gY cK (PE.aF (wK (nD 3) (PE.aF cI))) (nB 4)) (aB (PE.dz (oG (Gz (N:=["_law_row"]) (nt:=1) (caps:=[]) (ae xF) ["_law_script","_law_seed","_law_n","_law_first","_law_more","_law_told","_law_handed","_law_turn","_law_due","_law_row","_law_word","_law_again"] (by decide +kernel)) rfl (wN (iL (wK (nD 3) (PE.aF cI)))) (Kp.ok (uj (nt:=1) 0)) (fun _ _ _ _ _=>(tE 0 (by show Nodup (["_law_row"]:List Str);decide +kernel))) (fun _ _ _ _ _=>Lp) (fun _ _ _ _ _=>(PE.dz (AZ t.gI (nL 0)))))) bG))) eM.nd)
  (aD (eU 6 (Ip (aB (wK (nD 5) (PE.aF cI)) (aB (PE.dz (oG (Gz (N:=["_law_row"]) (nt:=1) (caps:=[]) (ae xF) ["_law_script","_law_seed","_law_n","_law_first","_law_more","_law_told","_law_handed","_law_turn","_law_due","_law_row","_law_word","_law_again"] (by decide +kernel)) rfl (wN (iL (wK (nD 5) (PE.aF cI)))) (Kp.ok (uj (nt:=1) 0)) (fun _ _ _ _ _=>(tE 0 (by show Nodup (["_law_row"]:List Str);decide +kernel))) (fun _ _ _ _ _=>Lp) (fun _ _ _ _ _=>(PE.dz (AZ t.gI (nL 0)))))) bG))) eM.nd)
  (aD (lE 7 (uh t.j9 kg (hr.mono (by decide)) (aB (PE.dz (oG (Gz (N:=["_law_p","_law_n"]) (nt:=1) (caps:=[2]) (ae xF) ["_law_script","_law_seed","_law_n","_law_first","_law_more","_law_told","_law_handed","_law_turn","_law_due","_law_row","_law_word","_law_again"] (by decide +kernel)) rfl (wN (iR1 t.kc (aE (nB 2) bC))) (Kp.ok (uj (nt:=1) 0)) (fun _ _ _ _ _=>(tE 0 (by show Nodup (["_law_p","_law_n"]:List Str);decide +kernel))) (fun _ _ _ _ _=>Lp) (fun _ _ _ _ _=>(bx bz bw (PE.aF (bx bz bw (nB 1) (PE.aF cI))) (nB 0))))) bG)) eM.nd)
  (aD (vR (bB qG o9 (PE.aF (wK (nD 5) (PE.aF cI))) (PE.aF cI) (aK _)) (aZ (lE 7 (Rw Z2 t.pZ qc (hr.mono (by decide)) (aE (nB 7) bC)) eM.nd)) lY)
  (aD (eU 8 (PE.dz (Pf (mNm 7) (PE.aF (iN wB zw t.EY CZ (aE (PE.aF (wK (nD 5) (PE.aF cI))) bC))))) eM.nd)
  (aD (vz PassesOwn.never rfl (iL (wK (nD 5) (PE.aF cI))) (tE 9 eM.nd) (aZ (eU 8 (PE.dz (Ml (nL 8) (PE.AW (uh t.j9 kg (hr.mono (by decide)) (aB (nD 9) bG))))) eM.nd)))
  (aD (eU 10 (PE.dz (uh t.pX p8 (hr.mono (by decide)) (aB (nD 2) (aB (nD 6) bG)))) eM.nd)
  (aD (vR (qX (rK (vx (PE.aF (Mw MB t.mz mG (hr.mono (by decide)) (aE (nB 10) (aE (nB 8) bC)))))) (yc (bB (nM (bu.u6 hr)) jW (nB 6) (nB 5) (aK _)))).pt (aZ (gU Hn)) lY)
  (aD (eU 11 (Oi t.zU Am (hr.mono (by decide)) (aB (nD 2) (aB (nD 10) bG))) eM.nd)
  (aZ (gU (Zs (PE.aF (Mw MB t.iF iG (hr.mono (by decide)) (aE (nB 11) (aE (nB 2) bC)))) (Zq (Q3 (lZ (bu.u6 hr)) jd (nB 11) (nB 5) (aK _))))))))))))))))))))
 exact h
end
@[irreducible] noncomputable def Kw (w:World):PySem.W.Frag:=H.K w.params
theorem Qf(w:World):Kw w=H.K w.params:=by kernel_rfl
theorem o5{K:PySem.W.Frag}{h:Heap}{mg:Str->Option Value}{x:String}{st:Stmt}{ps:List Str}{f c:Addr}{m:Value}(X:K.In h)(G:h.Ns mainGlobals mg)
  (e:(nsIn K mainGlobals (Str.ofString x),K.lookup f,codeIn K (.ref c) (Str.ofString x),keepIn K (.ref f))=(some (some (.ref f)),some (DL.H.hf (Str.ofString x) (Str.ofString x) st m c),true,true))
  (hb:∀(kV doc pm:Value)(an:Option Addr)(cdv ct:Value)(us:List Value),us.length=ps.length->bindArgs (PySem.W.fnOf (Str.ofString x) (Str.ofString x) (dY st) (bH st) (ae st) .none kV doc pm an cdv ct) ⟨us,[]⟩=pure (ps.zip us)):
  Df K mg (Str.ofString x) st ps f (PySem.W.fnOf (Str.ofString x) (Str.ofString x) (dY st) (bH st) (ae st) .none .none .none m none (.ref c) .none):=dfm X G (congrArg (·.1) e) (congrArg (·.2.1) e) (congrArg (·.2.2.1) e) (congrArg (·.2.2.2) e) hb
theorem Co{x q:Str}{a:Arguments}{b:List Stmt}{s:Scope}{p0:Str}(h:∀(kV doc pm:Value)(an:Option Addr)(cdv ct v0:Value),bindArgs (PySem.W.fnOf x q a b s .none kV doc pm an cdv ct) ⟨[v0],[]⟩=pure [(p0,v0)])(kV doc pm:Value)(an:Option Addr)(cdv ct:Value)(us:List Value)(hl:us.length=[p0].length):bindArgs (PySem.W.fnOf x q a b s .none kV doc pm an cdv ct) ⟨us,[]⟩=pure ([p0].zip us):=match us,hl with|[v0],_=>h _ _ _ _ _ _ _
theorem An{x q:Str}{a:Arguments}{b:List Stmt}{s:Scope}{p0 p1:Str}(h:∀(kV doc pm:Value)(an:Option Addr)(cdv ct v0 v1:Value),bindArgs (PySem.W.fnOf x q a b s .none kV doc pm an cdv ct) ⟨[v0,v1],[]⟩=pure [(p0,v0),(p1,v1)])(kV doc pm:Value)(an:Option Addr)(cdv ct:Value)(us:List Value)(hl:us.length=[p0,p1].length):bindArgs (PySem.W.fnOf x q a b s .none kV doc pm an cdv ct) ⟨us,[]⟩=pure ([p0,p1].zip us):=match us,hl with|[v0,v1],_=>h _ _ _ _ _ _ _ _
theorem Qg{x q:Str}{a:Arguments}{b:List Stmt}{s:Scope}{p0 p1 p2:Str}(h:∀(kV doc pm:Value)(an:Option Addr)(cdv ct v0 v1 v2:Value),bindArgs (PySem.W.fnOf x q a b s .none kV doc pm an cdv ct) ⟨[v0,v1,v2],[]⟩=pure [(p0,v0),(p1,v1),(p2,v2)])(kV doc pm:Value)(an:Option Addr)(cdv ct:Value)(us:List Value)(hl:us.length=[p0,p1,p2].length):bindArgs (PySem.W.fnOf x q a b s .none kV doc pm an cdv ct) ⟨us,[]⟩=pure ([p0,p1,p2].zip us):=match us,hl with|[v0,v1,v2],_=>h _ _ _ _ _ _ _ _ _
theorem Qh(K:PySem.W.Frag){C:Addr}{x q:String}{st:Stmt}{f c:Addr}{m:Value}
  (e:(findIn K (.ref C) (Str.ofString x),isFn K (.ref f),K.lookup f,codeIn K (.ref c) (Str.ofString q),keepIn K (.ref f))=(some (some (.ref f)),true,some (DL.H.hf (Str.ofString x) (Str.ofString q) st m c),true,true)):
  AM K (Str.ofString x) (Str.ofString q) st f (PySem.W.fnOf (Str.ofString x) (Str.ofString q) (dY st) (bH st) (ae st) .none .none .none m none (.ref c) .none)/\Meth K C (Str.ofString x) f:=
 ⟨CQ (congrArg (·.2.2.1) e) (congrArg (·.2.2.2.1) e) (congrArg (·.2.2.2.2) e),congrArg (·.1) e,congrArg (·.2.1) e,congrArg (·.2.2.2.2) e⟩
theorem all_mk{l:PySem.W.OpenLaw}{w:World}{h:Heap}{mg:Str->Option Value}{fa:Addr}(X:(Kw w).In h)(G:h.Ns mainGlobals mg)(hfa:mg "law"=some (.ref fa)):
  ∃fd:FuncData,(∀(s:Shared)(v:Value),BindsTo s fd ⟨[v],[]⟩ [("_law_script",v)])/\∀base:Heap,(Kw w).In base->base.Ns mainGlobals mg->cu l.prog w (Kw w) mg base lB 11 fa fd ["_law_script"] (D9 (Kw w) Hs xy):=by
 have e:=hfa.symm.trans (mg_of X G (show nsIn (Kw w) mainGlobals "law"=some (some (.ref 339))by kernel_rfl))
 cases e
 have yC:nsIn (Kw w) mainGlobals "Comb"=some (some (.ref 193)):=by kernel_rfl
 have ypg:plainGet (Kw w) 193 Str.empty=true:=by kernel_rfl
 have yhd:hasDictIn (Kw w) 193=true:=by kernel_rfl
 have ypo:plainOver (Kw w) 193=true:=by kernel_rfl
 have ysa:findIn (Kw w) (.ref 193) "__setattr__"=some (some (.builtin "object.__setattr__")):=by kernel_rfl
 have ymk:makesIn (Kw w) 193=true:=by kernel_rfl
 have ykc:keepIn (Kw w) (.ref 193)=true:=by kernel_rfl
 have yn0:findIn (Kw w) (.ref 193) "known"=some none:=by kernel_rfl
 have yn1:findIn (Kw w) (.ref 193) "numbers"=some none:=by kernel_rfl
 have yn2:findIn (Kw w) (.ref 193) "firsts"=some none:=by kernel_rfl
 have yn3:findIn (Kw w) (.ref 193) "lasts"=some none:=by kernel_rfl
 have yn4:findIn (Kw w) (.ref 193) "shorter"=some none:=by kernel_rfl
 have yn5:findIn (Kw w) (.ref 193) "longer"=some none:=by kernel_rfl
 have yn6:findIn (Kw w) (.ref 193) "kept"=some none:=by kernel_rfl
 have yn7:findIn (Kw w) (.ref 193) "line"=some none:=by kernel_rfl
 have yn8:findIn (Kw w) (.ref 193) "none"=some none:=by kernel_rfl
 have yn9:findIn (Kw w) (.ref 193) "whole"=some none:=by kernel_rfl
 let t:Tb (Kw w) mg:={pT:=44,pU:=_,sH:=o5 X G (c:=43) (m:=H.w1) (by kernel_rfl) (Co fun _ _ _ _ _ _ _=>rfl),ql:=51,qm:=_,uA:=o5 X G (c:=50) (m:=H.w1) (by kernel_rfl) (Co fun _ _ _ _ _ _ _=>rfl),iW:=58,iX:=_,fq:=o5 X G (c:=57) (m:=H.w2) (by kernel_rfl) (Co fun _ _ _ _ _ _ _=>rfl),xG:=65,xH:=_,uB:=o5 X G (c:=64) (m:=H.w2) (by kernel_rfl) (Co fun _ _ _ _ _ _ _=>rfl),gP:=72,gQ:=_,gR:=o5 X G (c:=71) (m:=H.w2) (by kernel_rfl) (Co fun _ _ _ _ _ _ _=>rfl),sI:=77,sJ:=_,qo:=o5 X G (c:=76) (m:=H.w2) (by kernel_rfl) (Co fun _ _ _ _ _ _ _=>rfl),pV:=84,pW:=_,kJ:=o5 X G (c:=83) (m:=H.w2) (by kernel_rfl) (Co fun _ _ _ _ _ _ _=>rfl),bh:=91,bj:=_,aV:=o5 X G (c:=90) (m:=H.w2) (by kernel_rfl) (An fun _ _ _ _ _ _ _ _=>rfl),bJ:=98,bK:=_,br:=o5 X G (c:=97) (m:=H.w2) (by kernel_rfl) (An fun _ _ _ _ _ _ _ _=>rfl),nX:=105,nY:=_,nZ:=o5 X G (c:=104) (m:=H.w2) (by kernel_rfl) (Co fun _ _ _ _ _ _ _=>rfl),sL:=112,sM:=_,sN:=o5 X G (c:=111) (m:=H.w2) (by kernel_rfl) (An fun _ _ _ _ _ _ _ _=>rfl),wm:=117,wo:=_,zR:=o5 X G (c:=116) (m:=H.w2) (by kernel_rfl) (Co fun _ _ _ _ _ _ _=>rfl),jj:=122,jk:=_,mr:=o5 X G (c:=121) (m:=H.w2) (by kernel_rfl) (Co fun _ _ _ _ _ _ _=>rfl),qp:=129,qq:=_,gS:=o5 X G (c:=128) (m:=H.w3) (by kernel_rfl) (Co fun _ _ _ _ _ _ _=>rfl),lN:=204,lP:=_,pX:=o5 X G (c:=203) (m:=H.w4) (by kernel_rfl) (An fun _ _ _ _ _ _ _ _=>rfl),ET:=211,EU:=_,J0:=o5 X G (c:=210) (m:=H.w4) (by kernel_rfl) (An fun _ _ _ _ _ _ _ _=>rfl),jl:=218,jm:=_,mw:=o5 X G (c:=217) (m:=H.w4) (by kernel_rfl) (Co fun _ _ _ _ _ _ _=>rfl),qr:=225,qt:=_,uC:=o5 X G (c:=224) (m:=H.w4) (by kernel_rfl) (An fun _ _ _ _ _ _ _ _=>rfl),jn:=232,jo:=_,my:=o5 X G (c:=231) (m:=H.w4) (by kernel_rfl) (An fun _ _ _ _ _ _ _ _=>rfl),cP:=239,cQ:=_,bR:=o5 X G (c:=238) (m:=H.w4) (by kernel_rfl) (Co fun _ _ _ _ _ _ _=>rfl),gu:=244,gw:=_,jK:=o5 X G (c:=243) (m:=H.w4) (by kernel_rfl) (An fun _ _ _ _ _ _ _ _=>rfl),gx:=249,gy:=_,jL:=o5 X G (c:=248) (m:=H.w4) (by kernel_rfl) (An fun _ _ _ _ _ _ _ _=>rfl),zS:=256,zT:=_,zU:=o5 X G (c:=255) (m:=H.w4) (by kernel_rfl) (An fun _ _ _ _ _ _ _ _=>rfl),iY:=263,i6:=_,kK:=o5 X G (c:=262) (m:=H.w5) (by kernel_rfl) (Qg fun _ _ _ _ _ _ _ _ _=>rfl),ig:=270,ik:=_,kL:=o5 X G (c:=269) (m:=H.w5) (by kernel_rfl) (An fun _ _ _ _ _ _ _ _=>rfl),iA:=277,iB:=_,kM:=o5 X G (c:=276) (m:=H.w5) (by kernel_rfl) (Qg fun _ _ _ _ _ _ _ _ _=>rfl),jq:=284,jr:=_,mz:=o5 X G (c:=283) (m:=H.w5) (by kernel_rfl) (An fun _ _ _ _ _ _ _ _=>rfl),gz:=291,gC:=_,jM:=o5 X G (c:=290) (m:=H.w5) (by kernel_rfl) (An fun _ _ _ _ _ _ _ _=>rfl),j0:=298,j3:=_,n8:=o5 X G (c:=297) (m:=H.w5) (by kernel_rfl) (An fun _ _ _ _ _ _ _ _=>rfl),j5:=305,j6:=_,n9:=o5 X G (c:=304) (m:=H.w5) (by kernel_rfl) (Qg fun _ _ _ _ _ _ _ _ _=>rfl),lQ:=310,lR:=_,pY:=o5 X G (c:=309) (m:=H.w5) (by kernel_rfl) (Qg fun _ _ _ _ _ _ _ _ _=>rfl),bX:=317,bY:=_,dE:=o5 X G (c:=316) (m:=H.w5) (by kernel_rfl) (An fun _ _ _ _ _ _ _ _=>rfl),j7:=324,j8:=_,j9:=o5 X G (c:=323) (m:=H.w5) (by kernel_rfl) (Co fun _ _ _ _ _ _ _=>rfl),lS:=329,lT:=_,pZ:=o5 X G (c:=328) (m:=H.w5) (by kernel_rfl) (Co fun _ _ _ _ _ _ _=>rfl),iC:=334,iD:=_,iF:=o5 X G (c:=333) (m:=H.w5) (by kernel_rfl) (An fun _ _ _ _ _ _ _ _=>rfl),J1:=339,EV:=_,Pw:=o5 X G (c:=338) (m:=H.w5) (by kernel_rfl) (Co fun _ _ _ _ _ _ _=>rfl),EY:=mg_none_of X G (by kernel_rfl),zV:=mg_none_of X G (by kernel_rfl),lU:=mg_none_of X G (by kernel_rfl),EZ:=mg_none_of X G (by kernel_rfl),bF:=mg_none_of X G (by kernel_rfl),jT:=mg_none_of X G (by kernel_rfl),gI:=mg_none_of X G (by kernel_rfl),Px:=mg_none_of X G (by kernel_rfl),kc:=mg_none_of X G (by kernel_rfl),i7:=mg_none_of X G (by kernel_rfl),BQ:=mg_none_of X G (by kernel_rfl),J2:=mg_none_of X G (by kernel_rfl),zW:=mg_none_of X G (by kernel_rfl),Py:=mg_none_of X G (by kernel_rfl),sO:=329,sP:=mg_of X G (by kernel_rfl)}
 refine⟨_,fun s v=>(?_:BindsTo s t.EV ⟨[v],[]⟩ [("_law_script",v)]),fun base _ _=>?_⟩
 ·exact .of_eq rfl
 have nv:= @Hb l.prog w (Kw w) mg base t
 have uP:= @DS l.prog w (Kw w) mg base t
 have fx:= @Ck l.prog w (Kw w) mg base t
 have Ak:= @NX l.prog w (Kw w) mg base t
 have cg:= @Ag l.prog w (Kw w) mg base t
 have qu:= @Lg l.prog w (Kw w) mg base t
 have aW:= @nk l.prog w (Kw w) mg base t
 have mB:= @xR l.prog w (Kw w) mg base t
 have He:= @DT l.prog w (Kw w) mg base t
 have dG:= @Cm l.prog w (Kw w) mg base t
 have kU:= @vK l.prog w (Kw w) mg base t
 have kW:= @vL l.prog w (Kw w) mg base t
 have mG:= @xS l.prog w (Kw w) mg base t
 have jN:= @uN l.prog w (Kw w) mg base t
 have dF:= @nq l.prog w (Kw w) mg base t
 have qc:= @Ah l.prog w (Kw w) mg base t
 have iG:= @vM l.prog w (Kw w) mg base t
 have kN:= @Hc l.prog w (Kw w) mg base t cg qu
 have cD:= @ou l.prog w (Kw w) mg base t cg aW
 have tw:= @Hd l.prog w (Kw w) mg base t fx aW
 have Ai:= @Lh l.prog w (Kw w) mg base t cg
 have Li:= @T5 l.prog w (Kw w) mg base t fx
 have mC:= @xT l.prog w (Kw w) mg base t mB
 have oy:= @yu l.prog w (Kw w) mg base t jN
 have kg:= @yv l.prog w (Kw w) mg base t dF
 have oA:= @Cn l.prog w (Kw w) mg base t kN cD
 have mE:= @xU l.prog w (Kw w) mg base t Ai
 have qd:= @oX l.prog w (Kw w) mg base t mC
 have oB:= @yw l.prog w (Kw w) mg base t dG oy
 have p8:= @Aj l.prog w (Kw w) mg base t nv Ak oA
 have uQ:= @DU l.prog w (Kw w) mg base t nv tw mE
 have p9:= @Al l.prog w (Kw w) mg base t dG oB
 have jP:= @uO l.prog w (Kw w) mg base t uP Li uQ
 have TC:Lw (Kw w) mg 193:=⟨⟨ypg,yhd,ypo,ysa⟩,yn0,yn1,yn2,yn3,yn4,yn5,yn6,yn7,yn8,yn9,mg_of X G yC,t.zW,t.gI,t.jT⟩
 have⟨YF0,XF⟩:=Qh (Kw w) (C:=193) (x:="__init__") (q:="Comb.__init__") (st:=Du) (f:=143) (c:=142) (m:=H.w3) (by kernel_rfl)
 have YB0:=YF0.binds (ps:=["self","n"]) (An fun _ _ _ _ _ _ _ _=>rfl)
 have⟨YF1,acr⟩:=Qh (Kw w) (C:=193) (x:="number_of") (q:="Comb.number_of") (st:=J3) (f:=150) (c:=149) (m:=H.w3) (by kernel_rfl)
 have YD:=YF1.binds (ps:=["self","row"]) (An fun _ _ _ _ _ _ _ _=>rfl)
 have YE:=acr
 have⟨YF2,acs⟩:=Qh (Kw w) (C:=193) (x:="without_first") (q:="Comb.without_first") (st:=Kb) (f:=157) (c:=156) (m:=H.w3) (by kernel_rfl)
 have YB2:=YF2.binds (ps:=["self","number","k"]) (Qg fun _ _ _ _ _ _ _ _ _=>rfl)
 have YM2:=acs
 have⟨YF3,acu⟩:=Qh (Kw w) (C:=193) (x:="with_last") (q:="Comb.with_last") (st:=Kd) (f:=164) (c:=163) (m:=H.w3) (by kernel_rfl)
 have YB3:=YF3.binds (ps:=["self","number","k"]) (Qg fun _ _ _ _ _ _ _ _ _=>rfl)
 have YM3:=acu
 have⟨YF4,acv⟩:=Qh (Kw w) (C:=193) (x:="slide") (q:="Comb.slide") (st:=Ke) (f:=171) (c:=170) (m:=H.w3) (by kernel_rfl)
 have YB4:=YF4.binds (ps:=["self","one","other"]) (Qg fun _ _ _ _ _ _ _ _ _=>rfl)
 have YM4:=acv
 have⟨YF5,acw⟩:=Qh (Kw w) (C:=193) (x:="slide_kept") (q:="Comb.slide_kept") (st:=Kg) (f:=178) (c:=177) (m:=H.w3) (by kernel_rfl)
 have YB5:=YF5.binds (ps:=["self","one","other"]) (Qg fun _ _ _ _ _ _ _ _ _=>rfl)
 have YM5:=acw
 have⟨YF6,acx⟩:=Qh (Kw w) (C:=193) (x:="put") (q:="Comb.put") (st:=Kh) (f:=185) (c:=184) (m:=H.w3) (by kernel_rfl)
 have YB6:=YF6.binds (ps:=["self","row"]) (An fun _ _ _ _ _ _ _ _=>rfl)
 have YM6:=acx
 have⟨YF7,acy⟩:=Qh (Kw w) (C:=193) (x:="form_told") (q:="Comb.form_told") (st:=E4) (f:=190) (c:=189) (m:=H.w3) (by kernel_rfl)
 have YB7:=YF7.binds (ps:=["self"]) (Co fun _ _ _ _ _ _ _=>rfl)
 have YM7:=acy
 have YF:=Tc (P:=l.prog) (w:=w) (base:=base) YF1 TC t kN qu He Np
 have YG2:=WI (P:=l.prog) (w:=w) (base:=base) YF2 TC t YE YD YF cD
 have YG3:=WM (P:=l.prog) (w:=w) (base:=base) YF3 TC t YE YD YF aW
 have YG4:=WN (P:=l.prog) (w:=w) (base:=base) YF4 TC YM2 YB2 YG2 YM3 YB3 YG3
 have YG5:=WT (P:=l.prog) (w:=w) (base:=base) YF5 TC t YM4 YB4 YG4
 have YG6:=WX (P:=l.prog) (w:=w) (base:=base) YF6 TC YE YD YF YM5 YB5 YG5
 have YG7:=W2 (P:=l.prog) (w:=w) (base:=base) YF7 TC
 have YG0:=W4 (P:=l.prog) (w:=w) (base:=base) YF0 TC t YE YD YF fx Ak (fun n hn=>lV n hn) (fun n hn=>Fe n hn) Nq kO
 have jO:=Tv (P:=l.prog) (w:=w) (base:=base) TC ⟨_,_,_,_,_,_,⟨ymk,XF.1,XF.2,ykc⟩,YB0,YG0,YM6,YB6,YG6,YM7,YB7,YG7⟩ t qd
 have Am:= @NY l.prog w (Kw w) mg base t jO jP
 have XG:= @T6 l.prog w (Kw w) mg base t p8 Am dG kU kW mG p9 kg qc iG
 exact XG
theorem walk{l:PySem.W.OpenLaw}{q:Program}{loose:List Str}{XP:(Str->Option Value)->Heap->Prop}{YP:World->Heap->Prop}{d:DefRec}{K:Params->PySem.W.Frag}(hn:l.most=some 63)(Vm:d.params.defaults=[])
  (hY:∀(w:World)(h:Heap),YP w h->(K w.params).In h)
  (F:∀(w:World)(mg:Str->Option Value)(fa:Addr)(h:Heap),(K w.params).In h->h.Ns mainGlobals mg->mg d.name=some (.ref fa)->
   ∃fd:FuncData,(∀(s:Shared)(u:Value),BindsTo s fd ⟨[u],[]⟩ [("_law_script",u)])/\∀base:Heap,(K w.params).In base->base.Ns mainGlobals mg->cu l.prog w (K w.params) mg base lB 11 fa fd ["_law_script"] (D9 (K w.params) Hs xy)):
  PySem.W.WalkO q loose XP YP l.row.toRowW d [] (fun f vs=>PySem.call f vs):=
 L2.Mb (n:=63) (k:=11) (x:="_law_script") (CX:=fun _=>lB) (sp:=fun w=>D9 (K w.params) Hs xy) hn (by decide) Vm ⟨rfl,by decide,by decide⟩ hY F (fun w H a ns hl _ hS=>T4 ns hl hS) fun _ _ _ _ _ z=>z
end DL.pO
open PySem PySem.W PyProof.Rows
set_option maxRecDepth 100000 in
set_option maxHeartbeats 0 in
theorem PySem.Challenge.cw_braidcomb_k33_forms_words_holds : PySem.Challenge.rw_braidcomb_k33_forms_words.Holds := by
 w_on
 refine holds_law (l:=PySem.Challenge.rw_braidcomb_k33_forms_words) (by kernel_rfl) fun said=>?_
 refine holds_open (q:=DL.pO.H.q) (Xt:=DL.pO.H.Xt) (XP:=XL DL.pO.H.q []) (Yf:=DL.pO.H.hk.obs) (Ya:=DL.pO.H.hk.val) (YP:=DL.pO.H.hk.says) DL.pO.H.left DL.pO.H.hk.of DL.pO.H.hk.keeps (fun s e=>xl_of s (Bool.and_eq_true_iff.mp e).1) XL.keeps (by rfl) (by rfl) (by rfl) (fun s e=>recFacts_of (Bool.and_eq_true_iff.mp e).2) (by rfl) said (by decide +kernel) ⟨rfl,rfl,rfl,rfl,rfl,by decide +kernel⟩ ?hw ?hc
 case hw=>w_witness2
 refine DL.pO.walk (l:=PySem.Challenge.rw_braidcomb_k33_forms_words) rfl rfl (fun w h Y=>kIn_of Y) ?F
 case F=>
  intro w mg fa h KX G hmg
  have hh:=DL.pO.all_mk (l:=PySem.Challenge.rw_braidcomb_k33_forms_words) ((DL.pO.Qf w).symm▸KX) G hmg
  rw[DL.pO.Qf w]at hh
  exact hh
