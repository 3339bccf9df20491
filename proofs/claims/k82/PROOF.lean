import PyProof.Rows.All
import Wide.All
import OpenK.AllK
import Wide.FinOn
import Lean
import PyProof.EqAt
import PyProof.EqKinds
import PyProof.TupleCall
import PyProof.NeKinds
import PyProof.ListRange
import OpenK.KOwn
import KE.KTryMore
import KE.KSorted
import KE.KSort
import PyProof.Rows.SortWalk
import PyProof.SeqI3
import PyProof.Rows.SumAny
import PyProof.Rows.SeqMore2
import KE.KListMore
import PyProof.Rows.Range3
import PyProof.Cells
import KE.KTabLook
import PyProof.SliceStr2
import PyProof.StrBlockI
import PyProof.Rows.FStr
import PyProof.Rows.StrNews2
import PyProof.ListStr
import PyProof.Rows.StrStep
import PyProof.Rows.StrJoinStr
import KE.KSortTup
import PyProof.NeKinds
import PyProof.AutoSeq1
import PyProof.ListRange
import KE.KRevIter
import PyProof.CollectIter
import PyProof.FactsAll.range_iterator_1
import PyProof.Draws
import PyProof.EnumMake
import KE.KUnpack
import OpenK.AllK
import PySem.Challenge.RW_braidcomb_k82_refused_changes_nothing
open PySem renaming Value→ah,World→aD,Program→aO,Addr→ae,Heap→au,sizeLine→aQ,Within→AQ,mainGlobals→bU,builtinsNs→Ft,bootBuiltins→fy,Around→aW,Shared→ai,Scope→cO,Model→uE,wpAny→aF,Expr→ak,model→aG,eval→aK,backTo→bY,starEach→aq,Stmt→aB,wpAny_mono→eY,wpAny_Name→Fz,standAt→m9,holding→lH,wpAny_truthy_bool→rJ,wpAny_execs_nil→rK,wpAny_execs_cons→xW,swapsWith→jB,wpAny_Expr_any→FE,assign→xX,assignEach→jb,letOwnedTupleGo→AW,wpAny_pure→cB,wpAny_bind→aP,rawInt→pA,IsRangeIter→AX,wpAny_pyNext_range_end→LQ,wpAny_pyIter_rangeiter→LR,wpAny_pyIter_range→LU,PassesOwn→AZ,foldedSetIterable→A0,wpAny_passesOwn→xY,binaryOp→nc,rule→pC,compareOp→dE,CmpOp→jc,behindInMarks→pF,lastMarks→A2,sizeLine_eq→FJ,DictEntry→A4,getMethod→pG,codeAny→ng,attributeBase→uI,cLine→rM,Code→pK,FuncData→aL,BindsTo→rN,bindArgs→jG,wpAny_call→uJ,codeAny_mono→rO,wpAny_Call_Name_kw→yc,callWith→uK,backToKw→nv,keywordEach→nz,NameKind→gw,bindL→pL,bindC→pM,leaving→ye,cellsFrom→Ba,Arguments→uL,IsPart→pN,Builtin→yh,wpAny_field→rP,getItem→yi,wpAny_holding→Bf,wpAny_newObj_type→uQ,slot_list_getitem→MA,sliceBounds→rR,Keyword→uR,Params→jI,callerA→rT,compEnvC→BA,relabel→yv,noteFrame→yw,wpAny_pyIter_enum→MY,wpAny_setField→GG,checkBuiltinCall→Nu,OsState→fI,treeTable→qc,importedModules→Oh
open Sum renaming inl→m7,inr→o9
open PySem.Value renaming int→AK,str→AL,bool→AM,bytes→Lz,float→Fp,ref→aS,type→AO,builtin→yE
open PySem.SeqAt renaming EqAt→uD,RcAt→rY,RcNeAt→rZ
open Option renaming some→aa,some→fj,isSome_iff_exists→yf,getD_none→MC,getD_some→MS,bind_some→Nr
open PySem.W renaming instObj→ph,methodObj→Fq,Frag→aj,lookIn→A3,InstAt→L8,plainGet→x8,hasDictIn→A5,findIn→eZ,handedIn→L9,plainGet_of→FN,isFn→A6,plainOver→FO,takerIn→FP,Looks→x9,makesIn→FQ,emptyDict→ni,looks_findIn→FT,keepIn→jF,specialIn→FW,takesIn→FY,mroIn→FZ,kitOne→ig,kia_one→gY,kitx_none→F0,kitx_list→F2,kitx_tuple→Me,kitx_dict→Mf,callWith_K→yd,methodCall_KW→F5,cellsFrom_some→Mq,fnOf→fE,codeIn→uM,OpenLaw→Gg,WalkO→MH,nsIn→cV,excIn→yD,exmOne→GL,clsIn→BQ,subIn→Np,findObj→Nq,kitAny→yF,kia_tup→Nx,mg_of→fZ,mg_none_of→j6
open PySem.Heap renaming lt_size→cy,get?_none_of_le→Fw,SameBut→Fy,get?_push_of_some→ej,get?_push_size→jC,size_push→Mb,get?_update_other→rS,get?_update_self→GH
open Nat renaming lt_of_lt_of_le→fk,lt_irrefl→pq,ne_of_lt→fX,le_trans→gW,le_of_lt→AS,ne_of_gt→AV,le_refl→bZ,le_of_eq→pI,lt_succ_self→A7,zero_le→yb,le_succ→Mm,le_of_not_lt→Ge,lt_of_le_of_lt→uS,zero_add→Gr,le_total→BG,min_eq_left→BH,min_eq_right→BI
open List renaming range→eR,mem_filter→LA,mem_range→LC,filterMap_cons→Fv,mem_cons_self→ky,mem_cons_of_mem→cP,mem_cons→bR,mem_append→eU,mem_append_left→xV,getElem?_eq_some_iff→dX,getElem?_set_self→jA,getElem?_set_ne→aT,mem_filterMap→LV,mem_append_right→fY,size_toArray→dY,length_cons→jE,lookup→kB,map_cons→nk,length_map→gX,append_nil→jd,nodup_cons→A9,of_mem_zip→F6,replicate→gx,length_take→cC,getElem?_append_right→gF,getElem?_replicate→kD,getElem?_append_left→ir,getElem?_map→dZ,getElem?_take_of_lt→Mr,mem_of_getElem?→yg,length_append→bz,length_replicate→Bb,length_drop→d7,length_singleton→Bq,map_nil→yo,getElem?_eq_getElem→cQ,getElem?_range→MQ,drop_zero→Gk,drop_eq_getElem_cons→yt,drop_length→MR,lookup_cons→uX,append_assoc→jL,not_mem_nil→jM,range_succ_eq_map→M0,all_cons→Gv,all_eq_true→u5,map_take→M4,map_drop→M5,map_map→M7,map_append→u9,take_of_length_le→vc,drop_eq_nil_of_le→GF,take_nil→M8,getElem?_eq_none_iff→Na,length_nil→yz,cons_append→Nb,nil_append→Nc,replicate_zero→Nd,replicate_succ→Nf,set_cons_zero→Nh,set_cons_succ→Ni,eq_of_mem_replicate→NH,range_succ→NK,flatten_append→NN,flatten_cons→NP,flatten_nil→NQ,getElem_mem→GY,mem_of_mem_take→yI,mem_of_mem_drop→B7,take_append_drop→G0,take_left→Ov,mem_map→G2,filter_eq_nil_iff→Oz,dropLast_concat→OI,mem_singleton→Cb,map_congr_left→OT
open PyProof.Rows renaming AllBare→ku,callWith_type1→AY,kindOf→ik,envOfC→dF,slot_tuple_getitem→Ga,subscriptTail_builtinR→Mz,IntsAre→yn
open Ne renaming symm→eT
open PySem.Calls renaming Name_function_global→LJ,call_len_list→L7,callWith_builtin→MD,evalArgs_plain→ME
open Array renaming length_toList→FD,toList→LK,getElem?_eq_some_iff→BK
open False renaming elim→dD
open Pure renaming pure→bJ
open Bool renaming false_and→cY,eq_iff_iff→xZ,false_ne_true→gu,and_eq_true→dM,or_false→MB,false_eq_true→BB,or_eq_true→Gy,true_eq_false→Ng,not_eq_true'→BO,eq_false_iff→Nv,true_and→fQ,not_false→gJ,not_true→cA,and_eq_true_iff→OU
open PySem.Data renaming fields→LO
open PySem.Walks renaming range→LP
open PySem.Builtin.Range renaming rangeSize→jD,small→NB
open PyProof renaming noPylong_small→LY
open PySem.Str renaming empty→FU,ofString→cZ
open True renaming intro→nu
open PySem.Around renaming under→F3
open PySem.Code renaming frames→Mi,isFrame→F4
open Int renaming toNat_natCast→uO,ediv_one→Ms,ediv_nonneg→Ny,emod_nonneg→vm,emod_lt_of_pos→GU,add_zero→GZ,lt_or_lt_of_ne→Ou,sub_self→G1
open PySem.Builtin.Slice renaming sliceAdjust→F8,slicePlaces→Be,sliceApplied→Mt
open PySem.Builtin.Tuple renaming tupleExact→Bj
open Or renaming inl→cD,inr→b9
open Classical renaming propDecidable→jK
open PySem.F renaming plainAttrs_list→yr,slot_list_append→Bw,type_list_append→Bx,excAttr_ValueError→Nt
open ForInStep renaming yield→pO
open PySem.Obj renaming isFreed_of_fields→Nj,data_mapFields→GJ,mapFields→BL
open PySem.EntryCells renaming newEntry→Nk
open PySem.NameKind renaming cell→NF
open PySem.Spec renaming part→ck
open Prod renaming fst→dq,snd→bV
open PySem.PassesOwn renaming never→qi
open PySem.W (typeIn KitX kIn_of)
open List (length map any)
open Nat (reduceAdd reduceSub reduceEqDiff ble)
set_option bootstrap.genMatcherCode false
set_option compiler.extract_closed false
set_option hygiene false
local macro_rules
|`(tactic|simp_all [$l,*])=>`(tactic|simp -implicitDefEqProofs only [mS,mD,mF,aY,ao,reduceAdd,reduceSub,reduceEqDiff,reduceIte,aw,aA,bp,br,bu,bw,$l,*])
|`(tactic|simp_all)=>`(tactic|simp -implicitDefEqProofs only [mS,mD,mF,aY,ao,reduceAdd,reduceSub,reduceEqDiff,reduceIte,aw,aA,bp,br,bu,bw])
local macro_rules|`(tactic|omega)=>`(tactic|first|exact Or.inl rfl|exact Or.inr rfl|exact Or.inr (Or.inl rfl)|exact Or.inr (Or.inr rfl)|assumption)
local macro_rules|`(tactic|simp_all only [$l,*])=>`(tactic|simp -implicitDefEqProofs only [$l,*])
local macro_rules|`($a>=>$b)=>`(R.bind $a $b)
set_option hygiene true
noncomputable section
set_option Elab.async false
set_option linter.all false
set_option maxRecDepth 100000
namespace L2
open PySem PySem.Spec PyProof.Rows
abbrev Key:=Sum Int Str
def OV:Key->ah->Bool
 |.inl k,v=>ah.isInt k v
 |.inr x,v=>ah.isStrOf x v
def WK(w:aD):Key->Int
 |.inl k=>hashInt k
 |.inr x=>hashStr w x
def fW:∀{k:Key}{v:ah},OV k v=true->(∃i t,k=m7 i/\v=AK i t)\/(∃x t,k=o9 x/\v=AL x t)
 |.inl i,v,h=>by obtain⟨t,e⟩:=ah.isInt_shape (k:=i) (v:=v) h;exact .inl ⟨i,t,rfl,e⟩
 |.inr x,v,h=>by obtain⟨t,e⟩:=ah.isStrOf_shape (x:=x) (v:=v) h;exact .inr ⟨x,t,rfl,e⟩
def Qq(a b:Int):decide ((m7 a:Key)=m7 b)=(a==b):=by
 by_cases e:a=b
 ·subst e;simp
 ·have h:¬(m7 a:Key)=m7 b:=λq=>e (m7.inj q)
  rw[decide_eq_false h];exact(beq_eq_false_iff_ne.mpr e).symm
def Qs(a b:Str):decide ((o9 a:Key)=o9 b)=decide (a=b):=by
 by_cases e:a=b
 ·subst e;simp
 ·have h:¬(o9 a:Key)=o9 b:=λq=>e (o9.inj q)
  rw[decide_eq_false h,decide_eq_false e]
def Qt(a:Int)(b:Str):decide ((m7 a:Key)=o9 b)=false:=decide_eq_false (λq=>nomatch q)
def Qu(a:Str)(b:Int):decide ((o9 a:Key)=m7 b)=false:=decide_eq_false (λq=>nomatch q)
noncomputable def Fo(prog:aO)(w:aD):PySem.KeyKind prog w Key where
 is:=OV
 hash:=WK w
 inj:=λv a b ha hb=>by
  rcases fW ha with⟨i,t,rfl,rfl⟩|⟨x,t,rfl,rfl⟩
  ·rcases fW hb with⟨j,u,rfl,e⟩|⟨y,u,rfl,e⟩
   ·injection e with e1 _;rw[e1]
   ·exact nomatch e
  ·rcases fW hb with⟨j,u,rfl,e⟩|⟨y,u,rfl,e⟩
   ·exact nomatch e
   ·injection e with e1 _;rw[e1]
 byValue:=λk v h=>by rcases fW h with⟨i,t,rfl,rfl⟩|⟨x,t,rfl,rfl⟩<;>rfl
 pyHash:=λhv h=>by
  rcases fW hv with⟨i,t,rfl,rfl⟩|⟨x,t,rfl,rfl⟩
  ·exact wpAny_pyHash_int h
  ·exact wpAny_pyHash_str h
 eqBool:=λhu hv h=>by
  rcases fW hu with⟨i,t,rfl,rfl⟩|⟨x,t,rfl,rfl⟩
  ·rcases fW hv with⟨j,u,rfl,rfl⟩|⟨y,u,rfl,rfl⟩
   ·rw[Qq]at h;exact wpAny_eqBool_int h
   ·rw[Qt]at h;exact uD.int_str i t y u _ _ _ _ h
  ·rcases fW hv with⟨j,u,rfl,rfl⟩|⟨y,u,rfl,rfl⟩
   ·rw[Qu]at h;exact uD.str_int x t j u _ _ _ _ h
   ·rw[Qs]at h;exact wpAny_eqBool_str h
 «strs»:=λk x t v h=>by
  rcases fW h with⟨i,u,rfl,e⟩|⟨y,u,rfl,e⟩
  ·exact nomatch e
  ·injection e with e1 _
   subst e1;cases v<;>rfl
end L2
namespace L2
open PySem PySem.Spec PyProof.Rows
inductive V where
 |non|bl (b:Bool)|int (i:Int)|str (x:Str)|Il (b:Array UInt8)|Qw (b:UInt64)|ref (a:ae)|ty (n:String)
 deriving DecidableEq
def RelV:V->ah->Prop
 |.non,u=>u=ah.none
 |.bl b,u=>u=AM b
 |.int i,u=>∃t,u=AK i t
 |.str x,u=>∃t,u=AL x t
 |.Il b,u=>∃t,u=Lz b t
 |.Qw b,u=>∃t,u=Fp b t
 |.ref a,u=>u=aS a
 |.ty n,u=>u=AO n
abbrev Vals:List V->List ah->Prop:=Paired RelV
theorem Vals.length {xs:List V}{us:List ah}(r:Vals xs us):xs.length=us.length:=Paired.length r
theorem Vals.get:∀{xs:List V}{us:List ah}{i:Nat}{x:V},Vals xs us->xs[i]?=aa x->∃u,us[i]?=aa u/\RelV x u
 |_,_,_,_,.nil,e=>by simp at e
 |_,_,0,_,.cons r _,e=>by simp at e;subst e;exact⟨_,rfl,r⟩
 |_,_,i+1,x,.cons _ t,e=>by obtain⟨u,h1,h2⟩:=Vals.get (i:=i) (x:=x) t (by simpa using e);exact⟨u,by simpa using h1,h2⟩
theorem Vals.append:∀{xs ys:List V}{us ws:List ah},Vals xs us->Vals ys ws->Vals (xs++ys) (us++ws)
 |_,_,_,_,.nil,s=>s
 |_,_,_,_,.cons r t,s=>.cons r (Vals.append t s)
theorem Vals.take:∀{xs:List V}{us:List ah}(n:Nat),Vals xs us->Vals (xs.take n) (us.take n)
 |_,_,0,_=>.nil
 |_,_,_+1,.nil=>.nil
 |_,_,n+1,.cons r t=>.cons r (Vals.take n t)
theorem Vals.drop:∀{xs:List V}{us:List ah}(n:Nat),Vals xs us->Vals (xs.drop n) (us.drop n)
 |_,_,0,r=>r
 |_,_,_+1,.nil=>.nil
 |_,_,n+1,.cons _ t=>Vals.drop n t
def zO:Option V->Option ah->Prop
 |some v,aa u=>RelV v u
 |none,none=>True
 |_,_=>False
def KV{κ:Type}:List (κ×V)->List (κ×ah)->Prop:=Paired λ(p:κ×V)(q:κ×ah)=>p.1=q.1/\RelV p.2 q.2
def kV:Key->V
 |.inl i=>.int i
 |.inr x=>.str x
inductive HO where
 |lst (xs:List V)
 |tup (xs:List V)
 |dK (kvs:List (Key×V))|dT (kvs:List (List Key×V))
 |set (S:Int->Bool) (n:Nat)
 |ins (C dx:ae) (fs:List (Str×V))
 |own (x:ae)
 |xd (fs:List (Str×V))
 |met (f x:ae)
 |V3 (lo hi:Int)
 |zM (o:Obj) (u:HO)
 |OW (ps:Array ah)
 |ext (φ:au->Prop)
abbrev Hp:=ae->Option HO
def upd(H:Hp)(a:ae)(o:HO):Hp:=λb=>if b=a then aa o else H b
def aV{H:Hp}{a:ae}{o:HO}:upd H a o a=aa o:=by unfold upd;rw[if_pos rfl]
def aM{H:Hp}{a b:ae}{o:HO}(h:b≠a):upd H a o b=H b:=by unfold upd;rw[if_neg h]
def Cu{H:Hp}{a b:ae}{o u:HO}(h:H a=aa o)(h':H b=aa u)(d:o≠u):a≠b:=by intro e;subst e;rw[h]at h';exact d (fj.inj h')
def bE{H:Hp}{a b:ae}{o:HO}(h:H a=aa o)(h':H b=none):a≠b:=by intro e;subst e;rw[h]at h';cases h'
section
variable(P:aO)(w:aD)
noncomputable def gK(H:Hp)(h:au)(a:ae):HO->Prop
 |.lst xs=>xs.length<=aQ/\∃(its:List ah)(n:Nat),Vals xs its/\h.get? a=aa {cls:=.type "list",data:=.seq its.toArray n}
 |.tup xs=>xs.length<=aQ/\∃its:List ah,Vals xs its/\IsTup h a its.toArray
 |.dK kvs=>kvs.length<=aQ/\(a==sysModules)=false/\∃vs,KV kvs vs/\h.DictOf (Fo P w) a vs
 |.dT kvs=>kvs.length<=aQ/\(a==sysModules)=false/\∃xs:List (List Key×ae×ah),
   Paired (λ(p:List Key×V)(q:List Key×ae×ah)=>p.1=q.1/\H q.2.1=aa (.tup (p.1.map kV))/\RelV p.2 q.2.2) kvs xs/\
   ∃o es ep,h.get? a=aa o/\o.ExactDict/\o.data=.dict es ep/\es.toList=xs.map (entryOfKey (tupleKind (Fo P w)))/\(xs.map (·.1)).Nodup
 |.set S n=>h.SetOf (intKind P w) a S n
 |.ins C dx fs=>H dx=aa (.own a)/\fs.length<=1000/\dx≠a/\h.get? a=aa (ph C dx)/\
   ∃mA,h.Ns1 dx mA/\(∀f,zO (fs.lookup f) (mA f))/\AQ mA (fs.map (·.1))
 |.own _=>∃o,h.get? a=aa o
 |.xd fs=>∃mA,h.Ns1 a mA/\∀f,zO (fs.lookup f) (mA f)
 |.V3 lo hi=>∃t u v,h.get? a=aa {cls:=.type "range",data:=.fields #[.int lo t,.int hi u,.int 1 v]}
 |.zM o u=>h.get? a=aa o/\gK H h a u
 |.OW ps=>h.get? a=aa {cls:=.none,data:=.fields ps}
 |.met f x=>h.get? a=aa (Fq (.ref f) (.ref x))
 |.ext φ=>φ h/\(∃o,h.get? a=aa o)/\∀h1 h2:au,φ h1->(∀o,h1.get? a=aa o->h2.get? a=aa o)->φ h2
def sU(H:Hp)(h:au):Prop:=∀a o,H a=aa o->gK P w H h a o
end
section
variable{P:aO}{w:aD}{H H':Hp}{h h':au}{a:ae}{o:HO}
theorem gK.lt (x:gK P w H h a o):a<h.objs.size:=by
 cases o with
 |lst xs=>obtain⟨_,_,_,_,e⟩:=x;exact cy e
 |tup xs=>obtain⟨_,_,_,p⟩:=x;exact p.lt
 |dK kvs=>obtain⟨_,_,_,_,o,_,_,e,_⟩:=x;exact cy e
 |dT kvs=>obtain⟨_,_,_,_,o,_,_,e,_⟩:=x;exact cy e
 |set S n=>obtain⟨o,_,_,_,e,_⟩:=x;exact cy e
 |ins C dx fs=>obtain⟨_,_,_,e,_⟩:=x;exact cy e
 |own y=>obtain⟨_,e⟩:=x;exact cy e
 |xd fs=>obtain⟨_,⟨_,_,_,e,_⟩,_⟩:=x;exact cy e
 |V3 lo hi=>obtain⟨_,_,_,e⟩:=x;exact cy e
 |zM ob u=>obtain⟨e,_⟩:=x;exact cy e
 |OW ps=>exact cy (show h.get? a=aa _ from x)
 |met f y=>exact cy (show h.get? a=aa _ from x)
 |ext φ=>obtain⟨_,⟨_,e⟩,_⟩:=x;exact cy e
theorem Paired.TR {α β:Type}{F G:α->β->Prop}:∀{l₁:List α}{l₂:List β},Paired F l₁ l₂->(∀a b,F a b->G a b)->Paired G l₁ l₂
 |_,_,.nil,_=>.nil
 |_,_,.cons r t,f=>.cons (f _ _ r) (Paired.TR t f)
def gK.zP (x:gK P w H h a o)(k:∀b u,(b=a\/H b=aa (.own a))->h.get? b=aa u->h'.get? b=aa u)
  (ho:∀b,H b=aa (.own a)->H' b=aa (.own a))(ht:∀b xs,H b=aa (.tup xs)->H' b=aa (.tup xs)):gK P w H' h' a o:=by
 induction o with
 |lst xs=>obtain⟨z,its,n,r,e⟩:=x;exact⟨z,its,n,r,k _ _ (.inl rfl) e⟩
 |tup xs=>obtain⟨z,its,r,ob,e,c⟩:=x;exact⟨z,its,r,ob,k _ _ (.inl rfl) e,c⟩
 |dK kvs=>obtain⟨z,y,vs,r,ob,es,ep,e,c⟩:=x;exact⟨z,y,vs,r,ob,es,ep,k _ _ (.inl rfl) e,c⟩
 |dT kvs=>
  obtain⟨z,y,xs,r,ob,es,ep,e,c⟩:=x;exact⟨z,y,xs,Paired.TR r λp q z=>⟨z.1,ht _ _ z.2.1,z.2.2⟩,ob,es,ep,k _ _ (.inl rfl) e,c⟩
 |set S n=>obtain⟨ob,es,ep,t,e,c⟩:=x;exact⟨ob,es,ep,t,k _ _ (.inl rfl) e,c⟩
 |ins C dx fs=>
  obtain⟨d,z,ne,e,mA,⟨od,es,ep,e2,c⟩,r⟩:=x;exact⟨ho _ d,z,ne,k _ _ (.inl rfl) e,mA,⟨od,es,ep,k _ _ (.inr d) e2,c⟩,r⟩
 |own y=>obtain⟨ob,e⟩:=x;exact⟨ob,k _ _ (.inl rfl) e⟩
 |xd fs=>obtain⟨mA,⟨od,es,ep,e,c⟩,r⟩:=x;exact⟨mA,⟨od,es,ep,k _ _ (.inl rfl) e,c⟩,r⟩
 |V3 lo hi=>obtain⟨t,u,v,e⟩:=x;exact⟨t,u,v,k _ _ (.inl rfl) e⟩
 |zM ob u ih=>obtain⟨e,q⟩:=x;exact⟨k _ _ (.inl rfl) e,ih q⟩
 |OW ps=>
  have e:h.get? a=aa {cls:=.none,data:=.fields ps}:=x;show h'.get? a=aa {cls:=.none,data:=.fields ps};exact k a _ (.inl rfl) e
 |met f y=>
  have e:h.get? a=aa (Fq (.ref f) (.ref y)):=x;show h'.get? a=aa (Fq (.ref f) (.ref y));exact k a _ (.inl rfl) e
 |ext φ=>obtain⟨p,⟨o,e⟩,st⟩:=x;exact⟨st _ _ p λo q=>k _ _ (.inl rfl) q,⟨o,k _ _ (.inl rfl) e⟩,st⟩
theorem sU.lt (x:sU P w H h)(e:H a=aa o):a<h.objs.size:=(x a o e).lt
def sU.fresh (x:sU P w H h)(e:h.objs.size<=a):H a=none:=by
 cases q:H a with
 |none=>rfl
 |some u=>exact absurd (fk (x.lt q) e) (pq _)
def sU.kept (x:sU P w H h)(k:∀b u,h.get? b=aa u->h'.get? b=aa u):sU P w H h':=λa o e=>
 (x a o e).zP (λb u _ q=>k b u q) (λ_ q=>q) λ_ _ q=>q
def sU.laid (x:sU P w H h)(k:∀b u,h.get? b=aa u->h'.get? b=aa u)(hp:h.objs.size<=a)(new:gK P w (upd H a o) h' a o):sU P w (upd H a o) h':=λb u e=>by
 have hn:=x.fresh hp
 by_cases hb:b=a
 ·subst hb;rw[aV]at e;cases e;exact new
 ·rw[aM hb]at e
  exact(x b u e).zP (λc v _ q=>k c v q) (λc q=>by rw[aM (bE q hn)];exact q) λc xs q=>by rw[aM (bE q hn)];exact q
end
def Rd(H:Hp)(a:ae)(u:HO):Prop:=H a=aa u\/∃o,H a=aa (.zM o u)
def Rd.ok {P:aO}{w:aD}{H:Hp}{h:au}{a:ae}{u:HO}(r:Rd H a u)(x:sU P w H h):gK P w H h a u:=by
 rcases r with r|⟨o,r⟩
 ·exact x a u r
 ·obtain⟨_,q⟩:=x a _ r
  exact q
def V4:Option HO->Prop
 |some (.lst _)=>True
 |some (.dK _)=>True
 |some (.dT _)=>True
 |some (.set _ _)=>True
 |some (.ins _ _ _)=>True
 |some (.ext _)=>True
 |_=>False
section
variable{P:aO}{w:aD}{H:Hp}{h h':au}{x e:ae}{o':HO}
def sU.write (ok:sU P w H h)(mu:V4 (H x))(he:e=x\/H e=aa (.own x))(k:∀b u,b≠e->h.get? b=aa u->h'.get? b=aa u)(Tf:∃u,h'.get? e=aa u)
  (new:gK P w (upd H x o') h' x o'):sU P w (upd H x o') h':=λb u q=>by
 have TU:∀c y,H c=aa (.own y)->c≠x:=λc y r z=>by subst z;rw[r]at mu;exact mu
 have WL:∀c xs,H c=aa (.tup xs)->c≠x:=λc xs r z=>by subst z;rw[r]at mu;exact mu
 by_cases hb:b=x
 ·subst hb;rw[aV]at q;cases q;exact new
 ·rw[aM hb]at q
  by_cases Qx:b=e
  ·have q':H b=aa (.own x):=by
    rcases he with z|z
    ·exact absurd (Qx.trans z) hb
    ·rw[Qx];exact z
   rw[q]at q';cases q';obtain⟨v,hv⟩:=Tf;exact⟨v,by rw[Qx];exact hv⟩
  ·refine(ok b u q).zP (λc v hc r=>k c v ?_ r) (λc r=>by rw[aM (TU c b r)];exact r) λc xs r=>by rw[aM (WL c xs r)];exact r
   rcases hc with rfl|hc
   ·exact Qx
   ·rintro rfl
    rcases he with z|z
    ·exact TU c b hc z
    ·rw[hc]at z;cases z;exact hb rfl
end
structure Un(fs ex:List ae)(H H':Hp)(h h':au):Prop where
 keep:∀b o,h.get? b=aa o->H b=none->b∉fs->b∉ex->h'.get? b=aa o
 slot:∀b o,h.get? b=aa o->H b=none->b∈fs->b∉ex->∃sl,h'.get? b=aa {o with slots:=sl}
 free:∀b o,h.get? b=aa o->H b=none->b∉ex->H' b=none
 there:∀b o,h.get? b=aa o->b∉ex->∃o',h'.get? b=aa o'
 tups:∀b xs,H b=aa (.tup xs)->H' b=aa (.tup xs)
 vR:∀b o u,H b=aa (.zM o u)->H' b=aa (.zM o u)
 xD:∀b ps,H b=aa (.OW ps)->∃more,H' b=aa (.OW (ps++more))
section
variable{fs V5 ex ex':List ae}{H H1 H2:Hp}{h h1 h2 h':au}{a x e:ae}{o:HO}
def Un.any (u:Un fs ex H H1 h h1){b:ae}{ob:Obj}(q:h.get? b=aa ob)(n:H b=none)(hx:b∉ex):∃sl,h1.get? b=aa {ob with slots:=sl}:=by
 by_cases hb:b∈fs
 ·exact u.slot b ob q n hb hx
 ·exact⟨ob.slots,u.keep b ob q n hb hx⟩
def Un.kept (k:∀b u,h.get? b=aa u->h'.get? b=aa u):Un fs ex H H h h':=
 ⟨λb ob q _ _ _=>k b ob q,λb ob q _ _ _=>⟨ob.slots,k b ob q⟩,λ_ _ _ n _=>n,λb ob q _=>⟨ob,k b ob q⟩,λ_ _ q=>q,λ_ _ _ q=>q,λ_ ps q=>⟨#[],by rw[q];simp⟩⟩
def Un.refl:Un fs ex H H h h:=Un.kept λ_ _ q=>q
def Un.laid (k:∀b u,h.get? b=aa u->h'.get? b=aa u)(hp:h.objs.size<=a)(hn:H a=none):Un fs ex H (upd H a o) h h' where
 keep:=λb u q _ _ _=>k b u q
 slot:=λb u q _ _ _=>⟨u.slots,k b u q⟩
 free:=λb u q n _=>by rw[aM (fX (fk (cy q) hp))];exact n
 there:=λb u q _=>⟨u,k b u q⟩
 tups:=λb xs q=>by rw[aM (bE q hn)];exact q
 vR:=λb u xs q=>by rw[aM (bE q hn)];exact q
 xD:=λb ps q=>⟨#[],by rw[aM (bE q hn),q];simp⟩
def Un.write (mu:V4 (H x))(he:e=x\/H e=aa (.own x))(k:∀b u,b≠e->h.get? b=aa u->h'.get? b=aa u)(Tf:∃u,h'.get? e=aa u):Un fs ex H (upd H x o) h h':=by
 have hx:∀b,H b=none->b≠x:=λb n z=>by subst z;rw[n]at mu;exact mu
 have hb:∀b,H b=none->b≠e:=λb n z=>by
  subst z;rcases he with r|r
  ·exact hx b n r
  ·rw[n]at r;cases r
 have hm:∀b u,H b=aa u->¬V4 (aa u)->b≠x:=λb u q nm z=>by subst z;rw[q]at mu;exact nm mu
 refine⟨λb u q n _ _=>k b u (hb b n) q,λb u q n _ _=>⟨u.slots,k b u (hb b n) q⟩,λb u q n _=>by rw[aM (hx b n)];exact n,λb u q _=>?_,
  λb xs q=>by rw[aM (hm b _ q λz=>z)];exact q,λb u xs q=>by rw[aM (hm b _ q λz=>z)];exact q,λb ps q=>⟨#[],by rw[aM (hm b _ q λz=>z),q];simp⟩⟩
 by_cases Qx:b=e
 ·subst Qx;exact Tf
 ·exact⟨u,k b u Qx q⟩
end
def V6(h:au)(H:Hp):List ae:=(eR h.objs.size).filter λa=>(H a).isSome
def AR(h:au)(H:Hp):au:=PySem.W.hideAll h (V6 h H)
def Hc(h:au)(H:Hp):(AR h H).objs.size=h.objs.size:=PySem.W.hideAll_size _ _
def IC{h:au}{H:Hp}{b:ae}{o:Obj}(e:h.get? b=aa o)(n:H b=none):(AR h H).get? b=aa o:=
 PySem.W.hideAll_get _ e λhm=>by have q:(H b).isSome=true:=(LA.mp hm).2;rw[n]at q;simp at q
def LB{h:au}{H:Hp}{b:ae}{o:Obj}(e:(AR h H).get? b=aa o):h.get? b=aa o/\H b=none:=by
 have e':h.get? b=aa o:=PySem.W.of_hideAll (V6 h H) e;refine⟨e',?_⟩;cases q:H b with
 |none=>rfl
 |some x=>
  have hm:b∈V6 h H:=LA.mpr ⟨LC.mpr (cy e'),by simp[q]⟩;have z:(AR h H).get? b=none:=PySem.W.hideAll_none (V6 h H) hm;rw[z]at e;cases e
def LD(g h:au)(L:ae):List (ae×Obj):=(eR h.objs.size).filterMap λa=>if a=L\/(g.get? a).isSome=true then none else(h.get? a).map λo=>(a,o)
def rest(g h:au)(L d:ae):List (ae×Obj):=(LD g h L).filter λp=>decide (p.1≠d)
end L2
namespace L2
open PySem PySem.Spec PyProof.Rows
structure Mod(K:aj)(mg:Str->Option ah)(base:au):Prop where
 OY:K.In base
 glob:base.Ns bU mg
 blt:∃mb,base.Ns Ft mb/\∀x:Str,x≠"__name__"->mb x=fy x
 nolimit:base.NoLimit
structure Cx where
 prog:aO
 w:aD
 K:aj
 mg:Str->Option ah
 base:au
 A:aW
 N:List Str
 s₀:ai
 H₀:Hp
 env:Env
 outer:List Env
 stack:List Env
 ex:List ae
 fn:Str->Bool
 calm:Bool
 pn:List (ae×Obj)
 xe:ah->ai->Prop
def Cv(l:List Env):List ae:=l.filterMap (·.frame)
abbrev Cx.fs (X:Cx):List ae:=Cv X.outer
def D5(sc:cO)(x:Str):Prop:=sc.names.lookup x=aa .local\/sc.names.lookup x=aa .cell\/sc.names.lookup x=aa .free
def Loc(sc:cO)(x:Str):Prop:=sc.names.lookup x=aa .local\/sc.names.lookup x=aa .cell
def Look(env:Env)(h:au)(m:Str->Option ah)(x:Str)(u:ah):Prop:=
 (env.kindOf x=aa .local/\m x=aa u)\/((env.kindOf x=aa .cell\/env.kindOf x=aa .free)/\∃c,env.cells.lookup x=aa c/\h.IsCell c (aa u))
structure Cx.Ok (X:Cx):Prop where
 mod:Mod X.K X.mg X.base
 kind:X.env.scope.kind=.function
 glob:X.env.globals=bU
 blt:X.env.builtins=Ft
 above:X.s₀.heap.objs.size<=X.env.locals
 inj:∀x y c,X.env.cells.lookup x=aa c->X.env.cells.lookup y=aa c->x=y
 has:∀x,(X.env.kindOf x=aa .cell\/X.env.kindOf x=aa .free)->∃c,X.env.cells.lookup x=aa c
 OZ:∀x c,X.fn x=true->X.env.cells.lookup x=aa c->X.s₀.heap.objs.size<=c
 hd:X.calm=true->X.A.handled=none
 frames:X.A.frames=aa X.stack
 Qy:X.stack=X.outer\/(X.stack=X.env::X.outer/\X.env.frame=aa X.env.locals)
 Tg:∀b∈X.ex,b≠X.env.locals/\∀x c,X.env.cells.lookup x=aa c->c≠b
 bs:∀b o,X.base.get? b=aa o->X.s₀.heap.get? b=aa o/\X.H₀ b=none
 Im:X.base.objs.size<=X.s₀.heap.objs.size
 Cw:∀b o,X.base.get? b=aa o->b∉X.ex
 Cy:∀b∈X.ex,b∉X.fs
 tQ:X.s₀.heap.FunFrames X.base X.outer
 Ls:∀b∈X.fs,X.H₀ b=none
structure Inv(X:Cx)(pins:List (ae×Obj))(σ:List (Option V))(H:Hp)(s:ai):Prop where
 ok:X.Ok
 os:s.os=X.s₀.os
 bare:ku s.gens
 base:Un X.fs X.ex X.H₀ H X.s₀.heap s.heap
 loc:∃m,s.heap.Ns X.env.locals m/\∀(i:Nat)(x:Str)(v:V),X.N[i]?=aa x->σ[i]?=aa (aa v)->D5 X.env.scope x->∃u,RelV v u/\Look X.env s.heap m x u
 cell:∀x c,X.env.cells.lookup x=aa c->∃v,s.heap.IsCell c v
 free:H X.env.locals=none
 m8:∀x c,X.env.cells.lookup x=aa c->H c=none
 pin:∀p∈X.pn++pins,s.heap.get? p.1=aa p.2/\H p.1=none/\p.1≠X.env.locals/\p.1∉X.fs/\∀v,p.2.data≠.cell v
 hok:sU X.prog X.w H s.heap
 len:σ.length=X.N.length
section
variable{X:Cx}{pins:List (ae×Obj)}{σ:List (Option V)}{H H':Hp}{s:ai}{h':au}
def Cx.Ok.WM (ok:X.Ok){b:ae}{o:Obj}(e:X.base.get? b=aa o):b∉X.fs:=λhb=>by have:=(ok.tQ.mem hb).1;rw[e]at this;cases this
theorem Inv.bs (I:Inv X pins σ H s):∀b o,X.base.get? b=aa o->s.heap.get? b=aa o/\H b=none:=λb o e=>
 ⟨I.base.keep b o (I.ok.bs b o e).1 (I.ok.bs b o e).2 (I.ok.WM e) (I.ok.Cw b o e),I.base.free b o (I.ok.bs b o e).1 (I.ok.bs b o e).2 (I.ok.Cw b o e)⟩
def Inv.bk (I:Inv X pins σ H s):∀b o,X.base.get? b=aa o->s.heap.get? b=aa o:=λb o e=>(I.bs b o e).1
theorem Inv.mod (I:Inv X pins σ H s):Mod X.K X.mg X.base:=I.ok.mod
def Inv.qy (I:Inv X pins σ H s):X.K.In s.heap:=I.ok.mod.OY.keeps I.bk
theorem Inv.lt (I:Inv X pins σ H s):X.env.locals<s.heap.objs.size:=let⟨_,hn,_⟩:=I.loc;hn.lt
def Inv.sz (I:Inv X pins σ H s):X.s₀.heap.objs.size<=s.heap.objs.size:=gW I.ok.above (AS I.lt)
def Inv.WN (I:Inv X pins σ H s){a:ae}(h:s.heap.objs.size<=a):a∉X.fs:=λhb=>by obtain⟨_,o,ho,_⟩:=I.ok.tQ.mem hb;exact absurd (fk (cy ho) (gW I.sz h)) (pq _)
def Inv.LG (I:Inv X pins σ H s):∀x c,X.env.cells.lookup x=aa c->c≠X.env.locals:=λx c e z=>by obtain⟨v,o,ho,hd⟩:=I.cell x c e;obtain⟨m,⟨o',es,ep,D6,WO,_⟩,_⟩:=I.loc;rw[z,D6]at ho;cases ho;rw[WO]at hd;cases hd
theorem Inv.tQ (I:Inv X pins σ H s):s.heap.FunFrames X.base X.outer:=by
 have all:∀(l:List Env),(∀b∈Cv l,b∈X.fs)->X.s₀.heap.FunFrames X.base l->s.heap.FunFrames X.base l:=by
  intro l
  induction l with
  |nil=>intro _ _;trivial
  |cons env r ih=>
   intro hs hl;obtain⟨hk,⟨L,o,hf,hn,ho,hd⟩,hr⟩:=hl;have hL:L∈X.fs:=hs L (by unfold Cv;rw[Fv,hf];exact ky);obtain⟨sl,e⟩:=I.base.slot L o ho (I.ok.Ls L hL) hL λz=>I.ok.Cy L z hL;exact⟨hk,⟨L,_,hf,hn,e,hd⟩,ih (λb hb=>hs b (by unfold Cv;rw[Fv,hf];exact cP _ hb)) hr⟩
 exact all X.outer (λ_ hb=>hb) I.ok.tQ
theorem Inv.stack (I:Inv X pins σ H s):s.heap.FunFrames X.base X.stack:=by
 rcases I.ok.Qy with e|⟨e,hf⟩
 ·rw[e];exact I.tQ
 ·rw[e]
  obtain⟨m,hn,_⟩:=I.loc;refine .cons (by rw[I.ok.kind];decide) hf hn ?_ I.tQ;exact Fw (gW I.ok.Im I.ok.above)
def Inv.yM (I:Inv X pins σ H s):∀b∈Cv X.stack,b∈X.env.locals::X.fs:=λb hb=>by
 rcases I.ok.Qy with e|⟨e,hf⟩
 ·rw[e]at hb;exact cP _ hb
 ·rw[e]at hb
  unfold Cv at hb;rw[Fv,hf]at hb;exact hb
def Inv.xU (I:Inv X pins σ H s):∀b∈Cv X.stack,H b=none:=λb hb=>by
 rcases bR.mp (I.yM b hb)with e|hb
 ·rw[e];exact I.free
 ·obtain⟨_,o,ho,_⟩:=I.ok.tQ.mem hb
  exact I.base.free b o ho (I.ok.Ls b hb) λz=>I.ok.Cy b z hb
def Inv.step {g':Array GenState}{t':Nat}{d':Drawn}{ch:List ae}(I:Inv X pins σ H s)
  (hch:∀b∈ch,(b∈X.ex\/X.s₀.heap.objs.size<=b)/\b≠X.env.locals/\(∀x c,X.env.cells.lookup x=aa c->c≠b)/\∀p∈X.pn++pins,p.1≠b)
  (keep:∀b o,b≠X.env.locals->b∉X.fs->b∉ch->s.heap.get? b=aa o->H b=none->h'.get? b=aa o)
  (slot:∀b o,b≠X.env.locals->b∈X.fs->b∉ch->s.heap.get? b=aa o->H b=none->∃sl,h'.get? b=aa {o with slots:=sl})(free:∀b o,b∉ch->s.heap.get? b=aa o->H b=none->H' b=none)
  (there:∀b o,b∉ch->s.heap.get? b=aa o->∃o',h'.get? b=aa o')
  (tups:∀b xs,H b=aa (.tup xs)->H' b=aa (.tup xs))(vR:∀b o u,H b=aa (.zM o u)->H' b=aa (.zM o u))(xD:∀b ps,H b=aa (.OW ps)->∃more,H' b=aa (.OW (ps++more)))
  (ns:∀m,s.heap.Ns X.env.locals m->h'.Ns X.env.locals m)(hok:sU X.prog X.w H' h')(hg:ku g'):
  Inv X pins σ H' {s with heap:=h',gens:=g',drawn:=d',toks:=t'}:=by
 have Zj:∀b o,X.s₀.heap.get? b=aa o->b≠X.env.locals:=λb o e=>fX (fk (cy e) I.ok.above);have V7:∀b o,X.s₀.heap.get? b=aa o->b∉X.ex->b∉ch:=λb o e hx hb=>by
  rcases(hch b hb).1 with z|z
  ·exact hx z
  ·exact absurd (fk (cy e) z) (pq _)
 have cellK:∀x c,X.env.cells.lookup x=aa c->∀v,s.heap.IsCell c v->h'.IsCell c v:=λx c e v ⟨o,ho,hd⟩=>by
  have TV:c∉ch:=λz=>(hch c z).2.2.1 x c e rfl
  by_cases hc:c∈X.fs
  ·obtain⟨sl,q⟩:=slot c o (I.LG x c e) hc TV ho (I.m8 x c e)
   exact⟨_,q,hd⟩
  ·exact⟨o,keep c o (I.LG x c e) hc TV ho (I.m8 x c e),hd⟩
 refine⟨I.ok,I.os,hg,⟨λb o e n hb hx=>?_,λb o e n hb hx=>?_,λb o e n hx=>?_,λb o e hx=>?_,λb xs e=>tups b xs (I.base.tups b xs e),λb o xs e=>vR b o xs (I.base.vR b o xs e),λb ps e=>?_⟩,?_,λx c e=>?_,?_,λx c e=>?_,λp hp=>?_,hok,I.len⟩
 ·exact keep b o (Zj b o e) hb (V7 b o e hx) (I.base.keep b o e n hb hx) (I.base.free b o e n hx)
 ·obtain⟨sl,e1⟩:=I.base.slot b o e n hb hx
  obtain⟨sl',e2⟩:=slot b _ (Zj b o e) hb (V7 b o e hx) e1 (I.base.free b o e n hx);exact⟨sl',e2⟩
 ·obtain⟨o',e1⟩:=I.base.there b o e hx
  exact free b o' (V7 b o e hx) e1 (I.base.free b o e n hx)
 ·obtain⟨o',e1⟩:=I.base.there b o e hx
  exact there b o' (V7 b o e hx) e1
 ·obtain⟨m1,e1⟩:=I.base.xD b ps e
  obtain⟨m2,e2⟩:=xD b _ e1;exact⟨m1++m2,by rw[e2,Array.append_assoc]⟩
 ·obtain⟨m,hn,hl⟩:=I.loc
  refine⟨m,ns m hn,λi x v e1 e2 e3=>?_⟩;obtain⟨u,r,l⟩:=hl i x v e1 e2 e3;refine⟨u,r,?_⟩;rcases l with l|⟨k,c,e,z⟩
  ·exact .inl l
  ·exact .inr ⟨k,c,e,cellK x c e _ z⟩
 ·obtain⟨v,z⟩:=I.cell x c e
  exact⟨v,cellK x c e v z⟩
 ·obtain⟨m,⟨o,_,_,ho,_⟩,_⟩:=I.loc
  exact free _ o (λz=>(hch _ z).2.1 rfl) ho I.free
 ·obtain⟨v,o,ho,hd⟩:=I.cell x c e
  exact free c o (λz=>(hch c z).2.2.1 x c e rfl) ho (I.m8 x c e)
 ·obtain⟨e,n,ne,nf,d⟩:=I.pin p hp
  have TV:p.1∉ch:=λz=>(hch p.1 z).2.2.2 p hp rfl;exact⟨keep p.1 p.2 ne nf TV e n,free p.1 p.2 TV e n,ne,nf,d⟩
def Inv.un {t':Nat}(I:Inv X pins σ H s)(u:Un X.fs [] H H' s.heap h')(hok:sU X.prog X.w H' h'):Inv X pins σ H' {s with heap:=h',toks:=t'}:=by
 obtain⟨m,⟨o,es,ep,ho,r⟩,_⟩:=id I.loc;obtain⟨sl,hL⟩:=u.any ho I.free (by simp);exact I.step (g':=s.gens) (d':=s.drawn) (ch:=[]) (λ_ z=>nomatch z) (λb o _ hb _ e n=>u.keep b o e n hb (by simp)) (λb o _ hb _ e n=>u.slot b o e n hb (by simp)) (λb o _ e n=>u.free b o e n (by simp)) (λb o _ e=>u.there b o e (by simp)) u.tups u.vR u.xD (λm' hm=>by obtain⟨o',WQ,WR,D6,r'⟩:=hm;rw[ho]at D6;cases D6;exact⟨_,WQ,WR,hL,r'⟩) hok I.bare
def Inv.call {g':Array GenState}{t':Nat}{d':Drawn}{ch:List ae}(I:Inv X pins σ H s)(u:Un (Cv X.stack) ch H H' s.heap h')(hok:sU X.prog X.w H' h')(hg:ku g')
  (hch:∀b∈ch,(b∈X.ex\/X.s₀.heap.objs.size<=b)/\b≠X.env.locals/\(∀x c,X.env.cells.lookup x=aa c->c≠b)/\∀p∈X.pn++pins,p.1≠b):
  Inv X pins σ H' {s with heap:=h',gens:=g',drawn:=d',toks:=t'}:=by
 obtain⟨m,⟨o,es,ep,ho,r⟩,_⟩:=id I.loc;obtain⟨sl,hL⟩:=u.any ho I.free λz=>(hch _ z).2.1 rfl;exact I.step (ch:=ch) hch (λb o hL hb hc e n=>u.keep b o e n (λz=>(bR.mp (I.yM b z)).elim hL hb) hc) (λb o _ _ hc e n=>u.any e n hc) (λb o hc e n=>u.free b o e n hc) (λb o hc e=>u.there b o e hc) u.tups u.vR u.xD (λm' hm=>by obtain⟨o',WQ,WR,D6,r'⟩:=hm;rw[ho]at D6;cases D6;exact⟨_,WQ,WR,hL,r'⟩) hok hg
def Inv.turned {t':Nat}{it:ae}(I:Inv X pins σ H s)(k:∀b o,b≠it->s.heap.get? b=aa o->h'.get? b=aa o)(hn:H it=none)(hL:it≠X.env.locals)
  (h1:it∈X.ex\/X.s₀.heap.objs.size<=it)(h2:∀x c,X.env.cells.lookup x=aa c->c≠it)(h3:∀p∈X.pn++pins,p.1≠it):Inv X pins σ H {s with heap:=h',toks:=t'}:=by
 have Zk:∀b u,H b=aa u->b≠it:=λb u e z=>by rw[z,hn]at e;cases e
 refine I.step (g':=s.gens) (d':=s.drawn) (ch:=[it]) (λb hb=>?_) (λb o _ _ hc e _=>k b o (λz=>hc (by simp[z])) e) (λb o _ _ hc e _=>⟨o.slots,k b o (λz=>hc (by simp[z])) e⟩) (λ_ _ _ _ n=>n)
  (λb o hc e=>⟨o,k b o (λz=>hc (by simp[z])) e⟩) (λ_ _ e=>e) (λ_ _ _ e=>e) (λb ps e=>⟨#[],by rw[e];simp⟩) (λm hm=>?_) (λb u e=>?_) I.bare
 ·have e:b=it:=by simpa using hb
  subst e;exact⟨h1,hL,h2,h3⟩
 ·obtain⟨o,es,ep,ho,r⟩:=hm
  exact⟨o,es,ep,k _ o (eT hL) ho,r⟩
 ·refine(I.hok b u e).zP (λc v hc q=>k c v ?_ q) (λ_ q=>q) λ_ _ q=>q
  rcases hc with z|z
  ·rw[z];exact Zk b u e
  ·exact Zk c _ z
def Inv.tok (I:Inv X pins σ H s)(t:Nat):Inv X pins σ H {s with toks:=t}:=I.un (h':=s.heap) (t':=t) Un.refl I.hok
theorem Inv.kept {t':Nat}(I:Inv X pins σ H s)(k:∀b u,s.heap.get? b=aa u->h'.get? b=aa u):Inv X pins σ H {s with heap:=h',toks:=t'}:=I.un (Un.kept k) (I.hok.kept k)
theorem Inv.laid {a:ae}{o:HO}{t':Nat}(I:Inv X pins σ H s)(k:∀b u,s.heap.get? b=aa u->h'.get? b=aa u)(hp:s.heap.objs.size<=a)(new:gK X.prog X.w (upd H a o) h' a o):
  Inv X pins σ (upd H a o) {s with heap:=h',toks:=t'}:=I.un (Un.laid k hp (I.hok.fresh hp)) (I.hok.laid k hp new)
theorem Inv.write {x e:ae}{o:HO}{t':Nat}(I:Inv X pins σ H s)(mu:V4 (H x))(he:e=x\/H e=aa (.own x))(k:∀b u,b≠e->s.heap.get? b=aa u->h'.get? b=aa u)(Tf:∃u,h'.get? e=aa u)
  (new:gK X.prog X.w (upd H x o) h' x o):Inv X pins σ (upd H x o) {s with heap:=h',toks:=t'}:=I.un (Un.write mu he k Tf) (I.hok.write mu he k Tf new)
def Inv.Fx {O0:List (ae×Obj)}(I:Inv X pins σ H s)(h:∀p∈O0,s.heap.get? p.1=aa p.2/\H p.1=none/\p.1≠X.env.locals/\p.1∉X.fs/\∀v,p.2.data≠.cell v):Inv X O0 σ H s:=
 ⟨I.ok,I.os,I.bare,I.base,I.loc,I.cell,I.free,I.m8,λp hp=>(eU.mp hp).elim (λz=>I.pin p (xV _ z)) (h p),I.hok,I.len⟩
def yN{N:List Str}(hN:N.Nodup){i j:Nat}{x:Str}(a:N[i]?=aa x)(b:N[j]?=aa x):i=j:=by obtain⟨h1,e1⟩:=dX.mp a;obtain⟨h2,e2⟩:=dX.mp b;exact(List.getElem_inj hN).mp (e1.trans e2.symm)
def Hd{M:uE}{A:aW}{E:ah->ai->Prop}{i:Nat}{x:Str}{v:V}{u:ah}{Q:Unit->ai->Prop}(I:Inv X pins σ H s)(hN:X.N.Nodup)(hi:X.N[i]?=aa x)(hx:Loc X.env.scope x)(r:RelV v u)
  (h:∀s',Inv X pins (σ.set i (aa v)) H s'->(∃a,Fy a s.heap s'.heap/\(a=X.env.locals\/X.env.cells.lookup x=aa a))->Q () s')(hf:X.fn x=true\/X.env.scope.names.lookup x=aa .local:=by first|exact .inl rfl|exact .inr rfl|assumption):aF M A (storeName X.env x u) Q E s:=by
 obtain⟨m,hn,hl⟩:=id I.loc;have hcls:(X.env.scope.kind==.class||(X.env.scope.kind==.module&&X.env.locals !=X.env.globals))=false:=by rw[I.ok.kind];rfl
 have V8:i<σ.length:=by rw[I.len];exact(dX.mp hi).1
 have LG:=I.LG;have tracked:∀{a:ae}{h':au},(∃o,s.heap.get? a=aa o/\H a=none)->Fy a s.heap h'->sU X.prog X.w H h':=λ{a h'} ha hs b ob e=>by
  obtain⟨_,_,hfree⟩:=ha;refine(I.hok b ob e).zP (λc w' hc q=>(hs.2 c ?_).trans q) (λ_ q=>q) λ_ _ q=>q;rintro rfl;rcases hc with rfl|hc
  ·rw[hfree]at e;cases e
  ·rw[hfree]at hc;cases hc
 rcases hx with hk|hk
 ·refine wpAny_storeName_local hk hn (λh' WS hs=>?_) hcls
  obtain⟨oL,_,_,Zl,_⟩:=id hn;refine h _ ⟨I.ok,I.os,I.bare,⟨λb o e n hb hx=>?_,λb o e n hb hx=>?_,I.base.free,λb o e hx=>?_,I.base.tups,I.base.vR,I.base.xD⟩,⟨_,WS,λj y v' e1 e2 e3=>?_⟩,λy c e=>?_,I.free,I.m8,λp hp=>?_,tracked ⟨oL,Zl,I.free⟩ hs,by simpa using I.len⟩ ⟨_,hs,.inl rfl⟩
  ·exact(hs.2 b (fX (fk (cy e) I.ok.above))).trans (I.base.keep b o e n hb hx)
  ·obtain⟨sl,e1⟩:=I.base.slot b o e n hb hx
   exact⟨sl,(hs.2 b (fX (fk (cy e) I.ok.above))).trans e1⟩
  ·obtain⟨o',e1⟩:=I.base.there b o e hx
   exact⟨o',(hs.2 b (fX (fk (cy e) I.ok.above))).trans e1⟩
  ·by_cases hj:j=i
   ·subst hj
    rw[hi]at e1;cases e1;rw[jA V8]at e2;cases e2;exact⟨u,r,.inl ⟨hk,by simp⟩⟩
   ·rw[aT (eT hj)]at e2
    obtain⟨u',r',q⟩:=hl j y v' e1 e2 e3;refine⟨u',r',?_⟩;rcases q with⟨k,e⟩|⟨k,c,e,z⟩
    ·refine .inl ⟨k,?_⟩
     have:y≠x:=λe=>hj (yN hN e1 (e▸hi));simp[this,e]
    ·exact .inr ⟨k,c,e,z.sameBut hs (LG y c e)⟩
  ·obtain⟨w',z⟩:=I.cell y c e
   exact⟨w',z.sameBut hs (LG y c e)⟩
  ·obtain⟨e,n,ne,nf,d⟩:=I.pin p hp
   exact⟨(hs.2 p.1 ne).trans e,n,ne,nf,d⟩
 ·have hfn:X.fn x=true:=by
   rcases hf with z|z
   ·exact z
   ·rw[z]at hk;cases hk
  obtain⟨c,hc⟩:=I.ok.has x (.inl hk);obtain⟨w',z⟩:=I.cell x c hc;refine wpAny_storeName_cell I.ok.kind hk hc z (λh' LH hs=>?_);obtain⟨oc,hoc,WT⟩:=id z;refine h {s with heap:=h'} ⟨I.ok,I.os,I.bare,⟨λb o e n hb hx=>?_,λb o e n hb hx=>?_,I.base.free,λb o e hx=>?_,I.base.tups,I.base.vR,I.base.xD⟩,⟨m,hn.sameBut hs (eT (LG x c hc)),λj y v' e1 e2 e3=>?_⟩,λy c' e=>?_,I.free,I.m8,λp hp=>?_,tracked ⟨oc,hoc,I.m8 x c hc⟩ hs,by simpa using I.len⟩ ⟨c,hs,.inr hc⟩
  ·exact(hs.2 b (fX (fk (cy e) (I.ok.OZ x c hfn hc)))).trans (I.base.keep b o e n hb hx)
  ·obtain⟨sl,e1⟩:=I.base.slot b o e n hb hx
   exact⟨sl,(hs.2 b (fX (fk (cy e) (I.ok.OZ x c hfn hc)))).trans e1⟩
  ·obtain⟨o',e1⟩:=I.base.there b o e hx
   exact⟨o',(hs.2 b (fX (fk (cy e) (I.ok.OZ x c hfn hc)))).trans e1⟩
  ·by_cases hj:j=i
   ·subst hj
    rw[hi]at e1;cases e1;rw[jA V8]at e2;cases e2;exact⟨u,r,.inr ⟨.inl hk,c,hc,LH⟩⟩
   ·rw[aT (eT hj)]at e2
    obtain⟨u',r',q⟩:=hl j y v' e1 e2 e3;refine⟨u',r',?_⟩;rcases q with q|⟨k,c',e,z'⟩
    ·exact .inl q
    ·refine .inr ⟨k,c',e,z'.sameBut hs ?_⟩
     rintro rfl;exact hj (yN hN e1 (I.ok.inj _ _ _ e hc▸hi))
  ·by_cases hcc:c'=c
   ·subst hcc;exact⟨_,LH⟩
   ·obtain⟨w2,z2⟩:=I.cell y c' e
    exact⟨w2,z2.sameBut hs hcc⟩
  ·obtain⟨e,n,ne,nf,d⟩:=I.pin p hp
   refine⟨(hs.2 p.1 ?_).trans e,n,ne,nf,d⟩;intro q;rw[q,hoc]at e;have q':oc=p.2:=fj.inj e;exact d w' (by rw[<-q'];exact WT)
def yO{M:uE}{A:aW}{E:ah->ai->Prop}{i:Nat}{x:Str}{v:V}{u:ah}{Q:Unit->ai->Prop}(I:Inv X pins σ H s)(hN:X.N.Nodup)(hi:X.N[i]?=aa x)(hx:Loc X.env.scope x)(r:RelV v u)
  (h:∀s',Inv X pins (σ.set i (aa v)) H s'->Q () s')(hf:X.fn x=true\/X.env.scope.names.lookup x=aa .local:=by first|exact .inl rfl|exact .inr rfl|assumption):aF M A (storeName X.env x u) Q E s:=
 Hd I hN hi hx r (λs' I' _=>h s' I') hf
def Inv.Ag {s':ai}{ch:List ae}(I:Inv X pins σ H s)(ho:s'.os=s.os)(u:Un (Cv X.stack) ch H H' s.heap s'.heap)(hok:sU X.prog X.w H' s'.heap)(hg:ku s'.gens)
  (hch:∀b∈ch,(b∈X.ex\/X.s₀.heap.objs.size<=b)/\b≠X.env.locals/\(∀x c,X.env.cells.lookup x=aa c->c≠b)/\∀p∈X.pn++pins,p.1≠b):Inv X pins σ H' s':=by
 obtain⟨h',g',d',t',o'⟩:=s';have e:o'=s.os:=ho;subst e;exact I.call (g':=g') (t':=t') (d':=d') u hok hg hch
end
abbrev XK:=ah->Option ae->Hp->Prop
abbrev St:=List (Option V)
abbrev VK:=V->Hp->Prop
abbrev TE:=St->Hp->VK->Prop
abbrev TT:=St->Hp->(Bool->Hp->Prop)->Prop
abbrev TA:=St->Hp->(List V->Hp->Prop)->Prop
structure Ends where
 nx:St->Hp->Prop
 rt:VK
 bk:St->Hp->Prop:=λ_ _=>False
 ct:St->Hp->Prop:=λ_ _=>False
abbrev TS:=Ends->St->Hp->Prop
def EP(X:Cx)(pins:List (ae×Obj))(σ:St)(Q:VK)(u:ah)(s':ai):Prop:=∃v H',Inv X pins σ H' s'/\RelV v u/\Q v H'
def TP(X:Cx)(pins:List (ae×Obj))(σ:St)(Q:Bool->Hp->Prop)(b:Bool)(s':ai):Prop:=∃H',Inv X pins σ H' s'/\Q b H'
def AP(X:Cx)(pins:List (ae×Obj))(σ:St)(Q:List V->Hp->Prop)(us:List ah)(s':ai):Prop:=∃vs H',Inv X pins σ H' s'/\Vals vs us/\Q vs H'
noncomputable def SP(X:Cx)(pins:List (ae×Obj))(D:Ends)(f:Flow)(s':ai):Prop:=
 match f with
 |.next=>∃σ' H',Inv X pins σ' H' s'/\D.nx σ' H'
 |.brk=>∃σ' H',Inv X pins σ' H' s'/\D.bk σ' H'
 |.cont=>∃σ' H',Inv X pins σ' H' s'/\D.ct σ' H'
 |.ret u=>∃v σ' H',Inv X pins σ' H' s'/\RelV v u/\D.rt v H'
def PE(X:Cx)(e:ak)(t:TE):Prop:=
 ∀(pins:List (ae×Obj))(s:ai)(σ:St)(H:Hp)(Q:VK),Inv X pins σ H s->t σ H Q->aF (aG X.prog X.w) X.A (aK e X.env) (EP X pins σ Q) X.xe s
def PT(X:Cx)(e:ak)(t:TT):Prop:=
 ∀(pins:List (ae×Obj))(s:ai)(σ:St)(H:Hp)(Q:Bool->Hp->Prop),Inv X pins σ H s->t σ H Q->aF (aG X.prog X.w) X.A (isTrue e X.env (aK e X.env)) (TP X pins σ Q) X.xe s
def PW(X:Cx)(e:ak)(t:TT):Prop:=
 ∀(whole:Sem ah)(pins:List (ae×Obj))(s:ai)(σ:St)(H:Hp)(Q:Bool->Hp->Prop),Inv X pins σ H s->t σ H Q->aF (aG X.prog X.w) X.A (isTrue e X.env whole) (TP X pins σ Q) X.xe s
def PW.pt {X:Cx}{e:ak}{t:TT}(h:PW X e t):PT X e t:=h _
def PA(X:Cx)(es:List ak)(t:TA):Prop:=
 ∀(pos:Pos)(pins:List (ae×Obj))(s:ai)(σ:St)(H:Hp)(Q:List V->Hp->Prop),Inv X pins σ H s->t σ H Q->aF (aG X.prog X.w) X.A (spliced (bY pos (aq es X.env))) (AP X pins σ Q) X.xe s
def PS(X:Cx)(st:aB)(t:TS):Prop:=
 ∀(pins:List (ae×Obj))(s:ai)(σ:St)(H:Hp)(D:Ends),Inv X pins σ H s->t D σ H->aF (aG X.prog X.w) X.A (exec st X.env) (SP X pins D) X.xe s
def qG(X:Cx)(st:List aB)(t:TS):Prop:=
 ∀(pins:List (ae×Obj))(s:ai)(σ:St)(H:Hp)(D:Ends),Inv X pins σ H s->t D σ H->aF (aG X.prog X.w) X.A (execs st X.env) (SP X pins D) X.xe s
def gV{α:Type}{t:Sem α}{Q Q':α->ai->Prop}{M:uE}{A:aW}{E:ah->ai->Prop}{s:ai}(h:aF M A t Q E s)(hQ:∀a s,Q a s->Q' a s):aF M A t Q' E s:=eY h hQ λ_ _ x=>x
end L2
namespace L2
open PySem PySem.Spec PyProof.Rows
section
variable{X:Cx}
def TX(i:Nat):TE:=λσ H Q=>∃v,σ[i]?=aa (aa v)/\Q v H
def tC(v:V):TE:=λ_ H Q=>Q v H
def nU{i:Nat}{x:Str}{pos:Pos}(hN:X.N[i]?=aa x)(hv:D5 X.env.scope x)(hd:(x==("__debug__":Str))=false:=by decide)(hcd:(x==("__classdict__":Str))=false:=by decide):PE X (.Name x pos) (TX i):=by
 intro pins s σ H Q I h;obtain⟨v,e,h⟩:=h;obtain⟨m,hn,hl⟩:=I.loc;obtain⟨u,r,l⟩:=hl i x v hN e hv;have fin:EP X pins σ Q u s:=⟨v,H,I,r,h⟩
 rcases l with⟨hk,hm⟩|⟨hk,c,hc,hcell⟩
 ·exact Fz (wpAny_loadName_local I.ok.kind hk hn hm fin) hd
 ·rcases hk with hk|hk
  ·exact Fz (wpAny_loadName_cell I.ok.kind hk hc hcell fin) hd
  ·exact Fz (wpAny_loadName_free I.ok.kind hk hc hcell fin hcd) hd
def nV{i j pos}:PE X (.Constant (.int i) j pos) (tC (.int i)):=λ_ _ _ H _ I h=>wpAny_Constant_int ⟨.int i,H,I.tok _,⟨_,rfl⟩,h⟩
def ID{b j pos}:PE X (.Constant (.bool b) j pos) (tC (.bl b)):=λ_ _ _ H _ I h=>Constant_bool ⟨.bl b,H,I,rfl,h⟩
def Qz{j pos}:PE X (.Constant .none j pos) (tC .non):=λ_ _ _ H _ I h=>Constant_none ⟨.non,H,I,rfl,h⟩
def l8{x j pos}:PE X (.Constant (.str x) j pos) (tC (.str x)):=λ_ _ _ H _ I h=>Calls.Constant_str ⟨.str x,H,I.tok _,⟨_,rfl⟩,h⟩
def Gl(X:Cx)(x:Str):Prop:=X.env.kindOf x=aa .globalImplicit
def rH{E:ah->ai->Prop}{pins:List (ae×Obj)}{s:ai}{σ:St}{H:Hp}{x:Str}{u:ah}{pos:Pos}{Q:ah->ai->Prop}(I:Inv X pins σ H s)(hg:Gl X x)(hm:X.mg x=aa u)(h:Q u s)
  (hd:(x==("__debug__":Str))=false:=by decide):aF (aG X.prog X.w) X.A (aK (.Name x pos) X.env) Q E s:=
 LJ I.ok.kind hg (Calls.loadGlobal_global (by rw[I.ok.glob];exact I.mod.glob.keeps I.bk) hm h) hd
def vU{E:ah->ai->Prop}{pins:List (ae×Obj)}{s:ai}{σ:St}{H:Hp}{x:Str}{u:ah}{pos:Pos}{Q:ah->ai->Prop}(I:Inv X pins σ H s)(hg:Gl X x)(hm:X.mg x=none)(hv:fy x=aa u)(h:Q u s)
  (hn:x≠"__name__":=by decide)(hd:(x==("__debug__":Str))=false:=by decide):aF (aG X.prog X.w) X.A (aK (.Name x pos) X.env) Q E s:=by
 obtain⟨mb,h1,h2⟩:=I.mod.blt;exact LJ I.ok.kind hg (Calls.loadGlobal_builtin (by rw[I.ok.glob];exact I.mod.glob.keeps I.bk) hm (by rw[I.ok.blt];exact h1.keeps I.bk) ((h2 x hn).trans hv) h) hd
def AU{x:Str}{v:V}{u:ah}{pos:Pos}(hg:Gl X x)(hm:X.mg x=aa u)(r:RelV v u)(hd:(x==("__debug__":Str))=false:=by decide):PE X (.Name x pos) (tC v):=
 λ_ _ _ H _ I h=>rH I hg hm ⟨v,H,I,r,h⟩ hd
def FA{x:Str}{v:V}{u:ah}{pos:Pos}(hg:Gl X x)(hm:X.mg x=none)(hv:fy x=aa u)(r:RelV v u)(hn:x≠"__name__":=by decide)(hd:(x==("__debug__":Str))=false:=by decide):PE X (.Name x pos) (tC v):=
 λ_ _ _ H _ I h=>vU I hg hm hv ⟨v,H,I,r,h⟩ hn hd
variable{a b:ak}{ta tb:TE}{pos:Pos}
def tB(t:TE):TT:=λσ H Q=>t σ H λx H1=>∃c,x=.bl c/\Q c H1
def IE{e:ak}{t:TE}(h:PE X e t)(he:∀whole,isTrue e X.env whole=(do let v<-whole;m9 e.pos;lH [v] (truthy v)):=by intro _;rfl):PT X e (tB t):=by intro pins s σ H Q I hw;refine isTrue_plain (gV (h pins s σ H _ I hw) λv s1 ⟨x,H1,I1,r1,q1⟩=>?_) (he _);obtain⟨d,rfl,q⟩:=q1;cases r1;exact rJ ⟨H1,I1,q⟩
variable{tA V9:TT}{rest:List ak}
def WU(t u:TT):TT:=λσ H Q=>t σ H λc H1=>if c=true then u σ H1 Q else Q false H1
def tOr(t u:TT):TT:=λσ H Q=>t σ H λc H1=>if c=true then Q true H1 else u σ H1 Q
def WV(t:TT):TT:=λσ H Q=>t σ H λc H1=>Q (!c) H1
def pw_and1(ha:PT X a tA):PW X (.BoolOp .And [a] pos) tA:=by
 intro wh pins s σ H Q I h;refine isTrue_and (gV (ha pins s σ H Q I h) λc s1 e=>?_);cases c with
 |true=>exact isTrue_and_nil e
 |false=>exact e
def pw_or1(ha:PT X a tA):PW X (.BoolOp .Or [a] pos) tA:=by
 intro wh pins s σ H Q I h;refine isTrue_or (gV (ha pins s σ H Q I h) λc s1 e=>?_);cases c with
 |false=>exact isTrue_or_nil e
 |true=>exact e
def pw_and(ha:PT X a tA)(hb:PW X (.BoolOp .And (b::rest) pos) V9):PW X (.BoolOp .And (a::b::rest) pos) (WU tA V9):=by
 intro wh pins s σ H Q I h;refine isTrue_and (gV (ha pins s σ H _ I h) λc s1 ⟨H1,I1,q1⟩=>?_);cases c with
 |true=>exact hb wh pins s1 σ H1 Q I1 q1
 |false=>exact⟨H1,I1,q1⟩
def pw_or(ha:PT X a tA)(hb:PW X (.BoolOp .Or (b::rest) pos) V9):PW X (.BoolOp .Or (a::b::rest) pos) (tOr tA V9):=by
 intro wh pins s σ H Q I h;refine isTrue_or (gV (ha pins s σ H _ I h) λc s1 ⟨H1,I1,q1⟩=>?_);cases c with
 |true=>exact⟨H1,I1,q1⟩
 |false=>exact hb wh pins s1 σ H1 Q I1 q1
def IF(ha:PT X a tA):PT X (.UnaryOp .Not a pos) (WV tA):=by intro pins s σ H Q I h;exact isTrue_not (ha pins s σ H (λc H1=>Q (!c) H1) I h)
def TY(ta tb:TE):TE:=λσ H Q=>ta σ H λx H1=>∃c,x=.bl c/\if c=true then tb σ H1 Q else Q (.bl false) H1
def TZ(ta:TE):TE:=λσ H Q=>ta σ H λx H1=>∃c,x=.bl c/\Q (.bl (!c)) H1
def IG{op}{t:TE}(h:PE X a t):PE X (.BoolOp op [a] pos) t:=λpins s σ H Q I hw=>BoolOp_one (h pins s σ H Q I hw)
def II(ha:PE X a ta)(hb:PE X (.BoolOp .And (b::rest) pos) tb):PE X (.BoolOp .And (a::b::rest) pos) (TY ta tb):=by
 intro pins s σ H Q I h;refine BoolOp_and (gV (ha pins s σ H _ I h) λv s1 ⟨x,H1,I1,r1,q1⟩=>?_);obtain⟨c,rfl,q1⟩:=q1;cases r1;refine rJ ?_;cases c with
 |true=>exact hb pins s1 σ H1 Q I1 q1
 |false=>exact⟨.bl false,H1,I1,rfl,q1⟩
def QA(ha:PE X a ta):PE X (.UnaryOp .Not a pos) (TZ ta):=by intro pins s σ H Q I h;refine UnaryOp_ (gV (ha pins s σ H _ I h) λv s1 ⟨x,H1,I1,r1,q1⟩=>?_);obtain⟨c,rfl,q1⟩:=q1;cases r1;exact not_of (rJ ⟨.bl (!c),H1,I1,rfl,q1⟩)
def tIf(t:TT)(ta tb:TE):TE:=λσ H Q=>t σ H λc H1=>if c=true then ta σ H1 Q else tb σ H1 Q
def IJ{c:ak}(hc:PT X c tA)(ha:PE X a ta)(hb:PE X b tb):PE X (.IfExp c a b pos) (tIf tA ta tb):=by
 intro pins s σ H Q I h;refine wpAny_IfExp (gV (hc pins s σ H _ I h) λd s1 ⟨H1,I1,q1⟩=>?_);cases d with
 |true=>exact ha pins s1 σ H1 Q I1 q1
 |false=>exact hb pins s1 σ H1 Q I1 q1
end
end L2
namespace L2
open PySem PySem.Spec PyProof.Rows
def lB(K:aj)(H:Hp)(a:ae)(xs:List V):Prop:=
 Rd H a (.lst xs)\/
  ∃(o:Obj)(its:Array ah)(n:Nat),K.lookup a=aa o/\o.cls=.type "list"/\o.dict=none/\o.data=.seq its n/\its.size<=aQ/\Vals xs its.toList
def DR(K:aj)(H:Hp)(a:ae)(xs:List V):Prop:=
 Rd H a (.tup xs)\/
  ∃(o:Obj)(its:Array ah)(n:Nat),K.lookup a=aa o/\o.cls=.type "tuple"/\o.data=.seq its n/\its.size<=aQ/\Vals xs its.toList
def WW:ah->Option V
 |.none=>aa .non
 |.bool b=>aa (.bl b)
 |.int i _=>aa (.int i)
 |.str x _=>aa (.str x)
 |.bytes b _=>aa (.Il b)
 |.float b _=>aa (.Qw b)
 |.ref a=>aa (.ref a)
 |.type n=>aa (.ty n)
 |_=>none
def RelV.abs {x:V}{u:ah}(r:RelV x u):WW u=aa x:=by
 cases x with
 |non=>cases r;rfl
 |bl _=>cases r;rfl
 |int _=>obtain⟨t,rfl⟩:=r;rfl
 |str _=>obtain⟨t,rfl⟩:=r;rfl
 |Il _=>obtain⟨t,rfl⟩:=r;rfl
 |Qw _=>obtain⟨t,rfl⟩:=r;rfl
 |ref _=>cases r;rfl
 |ty _=>cases r;rfl
theorem RelV.inj {x y:V}{u:ah}(r:RelV x u)(q:RelV y u):x=y:=fj.inj (r.abs.symm.trans q.abs)
theorem Vals.inj:∀{xs ys:List V}{us:List ah},Vals xs us->Vals ys us->xs=ys
 |_,_,_,.nil,.nil=>rfl
 |_,_,_,.cons r t,.cons r' t'=>by rw[r.inj r',Vals.inj t t']
section
variable{X:Cx}{pins:List (ae×Obj)}{σ:St}{H:Hp}{s:ai}{a:ae}{xs ys:List V}
def lB.of {K:aj}(h:H a=aa (.lst xs)):lB K H a xs:=.inl (.inl h)
def Inv.list (I:Inv X pins σ H s)(h:lB X.K H a xs):∃its:List ah,Vals xs its/\PlainL s.heap a its.toArray/\xs.length<=aQ:=by
 rcases h with h|⟨o,its,n,hk,hc,hd,hs,hz,r⟩
 ·obtain⟨z,its,n,r,e⟩:=h.ok I.hok
  exact⟨its,r,⟨_,n,e,rfl,rfl,rfl⟩,z⟩
 ·refine⟨its.toList,r,⟨o,n,I.qy a o hk,hc,hd,by simpa using hs⟩,?_⟩
  have e:=r.length;simp only [FD]at e;omega
def Inv.tuple (I:Inv X pins σ H s)(h:DR X.K H a xs):∃its:List ah,Vals xs its/\IsTup s.heap a its.toArray/\xs.length<=aQ:=by
 rcases h with h|⟨o,its,n,hk,hc,hs,hz,r⟩
 ·obtain⟨z,its,r,p⟩:=h.ok I.hok
  exact⟨its,r,p,z⟩
 ·refine⟨its.toList,r,⟨o,I.qy a o hk,hc,n,by simpa using hs⟩,?_⟩
  have e:=r.length;simp only [FD]at e;omega
def Inv.yP (I:Inv X pins σ H s)(h:lB X.K H a xs)(h':lB X.K H a ys):xs=ys:=by
 obtain⟨its,r,⟨o,n,e,_,_,d⟩,_⟩:=I.list h;obtain⟨its',r',⟨o',n',e',_,_,d'⟩,_⟩:=I.list h';rw[e]at e';cases e';rw[d]at d';injection d' with d1 _;have:its=its':=by simpa using congrArg LK d1
 subst this;exact r.inj r'
def Inv.Ah (I:Inv X pins σ H s)(h:DR X.K H a xs)(h':DR X.K H a ys):xs=ys:=by
 obtain⟨its,r,⟨o,e,_,n,d⟩,_⟩:=I.tuple h;obtain⟨its',r',⟨o',e',_,n',d'⟩,_⟩:=I.tuple h';rw[e]at e';cases e';rw[d]at d';injection d' with d1 _;have:its=its':=by simpa using congrArg LK d1
 subst this;exact r.inj r'
end
abbrev Cx.uF (X:Cx)(E:ah->ai->Prop):Cx:={X with xe:=E}
abbrev Cx.Cz (X:Cx):Cx:=X.uF λ_ _=>False
theorem Cx.Ok.uF {X:Cx}(ok:X.Ok)(E:ah->ai->Prop):(X.uF E).Ok:=
 ⟨ok.mod,ok.kind,ok.glob,ok.blt,ok.above,ok.inj,ok.has,ok.OZ,ok.hd,ok.frames,ok.Qy,ok.Tg,ok.bs,ok.Im,ok.Cw,ok.Cy,ok.tQ,ok.Ls⟩
def Cx.Ok.kQ {X:Cx}{E:ah->ai->Prop}(ok:(X.uF E).Ok):X.Ok:=
 ⟨ok.mod,ok.kind,ok.glob,ok.blt,ok.above,ok.inj,ok.has,ok.OZ,ok.hd,ok.frames,ok.Qy,ok.Tg,ok.bs,ok.Im,ok.Cw,ok.Cy,ok.tQ,ok.Ls⟩
section
variable{X:Cx}{pins:List (ae×Obj)}{σ:St}{H:Hp}{s:ai}{E:ah->ai->Prop}
theorem Inv.uF (I:Inv X pins σ H s)(E:ah->ai->Prop):Inv (X.uF E) pins σ H s:=⟨I.ok.uF E,I.os,I.bare,I.base,I.loc,I.cell,I.free,I.m8,I.pin,I.hok,I.len⟩
theorem Inv.kQ (I:Inv (X.uF E) pins σ H s):Inv X pins σ H s:=⟨I.ok.kQ,I.os,I.bare,I.base,I.loc,I.cell,I.free,I.m8,I.pin,I.hok,I.len⟩
theorem SP.kQ {D:Ends}{f:Flow}{s':ai}(h:SP (X.uF E) pins D f s'):SP X pins D f s':=by
 cases f with
 |next=>obtain⟨σ',H',I,q⟩:=h;exact⟨σ',H',I.kQ,q⟩
 |brk=>obtain⟨σ',H',I,q⟩:=h;exact⟨σ',H',I.kQ,q⟩
 |cont=>obtain⟨σ',H',I,q⟩:=h;exact⟨σ',H',I.kQ,q⟩
 |ret u=>obtain⟨v,σ',H',I,r,q⟩:=h;exact⟨v,σ',H',I.kQ,r,q⟩
theorem qG.Cz {st:List aB}{t:TS}(h:qG X.Cz st t):qG X st t:=λpins s σ H D I hw=>
 eY (h pins s σ H D (I.uF _) hw) (λ_ _ q=>q.kQ) λ_ _ z=>dD z
end
section
variable{X:Cx}{st:aB}{rest:List aB}{t u:TS}{e:ak}{te:TE}{pos:Pos}
def T3:TS:=λD σ H=>D.nx σ H
def WX(t u:TS):TS:=λD σ H=>t {D with nx:=u D} σ H
def uG:qG X [] T3:=λ_ _ σ H _ I h=>rK ⟨σ,H,I,h⟩
def dJ(h1:PS X st t)(h2:qG X rest u):qG X (st::rest) (WX t u):=by
 intro pins s σ H D I h;refine xW (gV (h1 pins s σ H {D with nx:=u D} I h) λf s1 q=>?_);cases f with
 |next=>
  obtain⟨σ',H',I',q⟩:=q;exact h2 pins s1 σ' H' D I' q
 |ret v=>exact q
 |brk=>exact q
 |cont=>exact q
def gr(h1:PS X st t):qG X [st] t:=by
 intro pins s σ H D I h;refine xW (gV (h1 pins s σ H D I h) λf s1 q=>?_);cases f with
 |next=>exact rK q
 |ret v=>exact q
 |brk=>exact q
 |cont=>exact q
def Inv.quiet {pins:List (ae×Obj)}{σ:St}{H:Hp}{s:ai}(I:Inv X pins σ H s):interactive X.env=false:=by simp[interactive,I.ok.kind]
def T4(te:TE):TS:=λD σ H=>te σ H λ_ H1=>D.nx σ H1
def lI(he:PE X e te)(hs:jB e none pos.line X.env=bJ false:=by rfl):PS X (.Expr e pos) (T4 te):=by intro pins s σ H D I h;exact FE (gV (he pins s σ H _ I h) λv s1 ⟨x,H1,I1,r1,q1⟩=>⟨σ,H1,I1,q1⟩) I.quiet hs
def WY(te:TE):TS:=λD σ H=>te σ H D.rt
def l9(he:PE X e te):PS X (.Return (aa e) pos) (WY te):=by intro pins s σ H D I h;exact wpAny_Return_some (gV (he pins s σ H _ I h) λv s1 ⟨x,H1,I1,r1,q1⟩=>⟨x,σ,H1,I1,r1,q1⟩)
def WZ(c:TT)(t u:TS):TS:=λD σ H=>c σ H λb H1=>if b=true then t D σ H1 else u D σ H1
def wZ{c:ak}{a b:List aB}{tc:TT}(hc:PT X c tc)(ha:qG X a t)(hb:qG X b u):PS X (.If c a b pos) (WZ tc t u):=by
 intro pins s σ H D I h;refine wpAny_If (gV (hc pins s σ H _ I h) λd s1 ⟨H1,I1,q1⟩=>?_);cases d with
 |true=>exact ha pins s1 σ H1 D I1 q1
 |false=>exact hb pins s1 σ H1 D I1 q1
end
abbrev TG:=V->St->Hp->(St->Hp->Prop)->Prop
abbrev LL:=List V->St->Hp->(St->Hp->Prop)->Prop
def PG(X:Cx)(target:ak)(t:TG):Prop:=
 ∀(pins:List (ae×Obj))(s:ai)(σ:St)(H:Hp)(v:V)(u:ah)(Q:St->Hp->Prop),Inv X pins σ H s->RelV v u->t v σ H Q->
  aF (aG X.prog X.w) X.A (xX target X.env u) (λ_ s'=>∃σ' H',Inv X pins σ' H' s'/\Q σ' H') X.xe s
noncomputable def FG(X:Cx)(ts:List ak)(t:LL):Prop:=
 ∀(pins:List (ae×Obj))(s:ai)(σ:St)(H:Hp)(vs:List V)(us:List ah)(Q:St->Hp->Prop),Inv X pins σ H s->Vals vs us->t vs σ H Q->
  aF (aG X.prog X.w) X.A (assignInOrder ((jb ts X.env).map (·.2)) us) (λ_ s'=>∃σ' H',Inv X pins σ' H' s'/\Q σ' H') X.xe s
section
variable{X:Cx}{pos:Pos}
def O1(i:Nat):TG:=λv σ H Q=>Q (σ.set i (aa v)) H
def LM{i:Nat}{x:Str}(hN:X.N.Nodup)(hi:X.N[i]?=aa x)(hx:Loc X.env.scope x)(hf:X.fn x=true\/X.env.scope.names.lookup x=aa .local:=by first|exact .inl rfl|exact .inr rfl|assumption):PG X (.Name x pos) (O1 i):=by intro pins s σ H v u Q I r h;exact wpAny_assign_Name (yO I hN hi hx r (λs' I'=>⟨_,H,I',h⟩) hf)
def W0:LL:=λvs σ H Q=>vs=[]/\Q σ H
def T5(t:TG)(u:LL):LL:=λvs σ H Q=>∃v r,vs=v::r/\t v σ H λσ' H'=>u r σ' H' Q
def LN:FG X [] W0:=by intro pins s σ H vs us Q I r h;obtain⟨e,h⟩:=h;subst e;cases r;exact assignInOrder_nil ⟨σ,H,I,h⟩
def IK{e:ak}{es:List ak}{t:TG}{u:LL}(h1:PG X e t)(h2:FG X es u)
  (hs:(jb (e::es) X.env).map (·.2)=xX e X.env::(jb es X.env).map (·.2):=by rfl):FG X (e::es) (T5 t u):=by
 intro pins s σ H vs us Q I r h;obtain⟨v,vr,e1,h⟩:=h;subst e1;cases r with
 |cons r rr=>
  rw[hs];refine assignInOrder_cons (gV (h1 pins s σ H _ _ _ I r h) λ_ s1 ⟨σ1,H1,I1,q1⟩=>?_);exact h2 pins s1 σ1 H1 _ _ Q I1 rr q1
def W2(K:aj)(n:Nat)(t:LL):TG:=λv σ H Q=>∃a xs,v=.ref a/\DR K H a xs/\xs.length=n/\t xs σ H Q
def QB{es:List ak}{k:Nat}{t:LL}{n:Nat}(hc:X.calm=true)(h:FG X es t)
  (hn:(jb es X.env).length=n:=by rfl)(hst:(jb es X.env).findIdx? (·.1)=none:=by rfl):PG X (.Tuple es k pos) (W2 X.K n t):=by
 intro pins s σ H v u Q I r hw;obtain⟨a,xs,e1,hq,hl,hw⟩:=hw;subst e1;cases r;obtain⟨its,rv,ht,hz⟩:=I.tuple hq;refine assign_Tuple_tuple (I.ok.hd hc) ht (by simp[hn,<-hl,rv.length]) hst λh' hx=>?_;have I1:Inv X pins σ H {s with heap:=h'}:=I.kept (t':=s.toks) λb o e=>hx b o (fX (cy e)) e;exact h pins _ σ H xs _ Q I1 (by simpa using rv) hw
def W3(te:TE)(g:TG):TS:=λD σ H=>te σ H λx H1=>g x σ H1 D.nx
def qI{i:Nat}{x:Str}{e:ak}{te:TE}{pos':Pos}(hN:X.N.Nodup)(hi:X.N[i]?=aa x)(hx:Loc X.env.scope x)(he:PE X e te)(hs:jB e (aa (.Name x pos')) pos.line X.env=bJ false:=by rfl)(hf:X.fn x=true\/X.env.scope.names.lookup x=aa .local:=by first|exact .inl rfl|exact .inr rfl|assumption):
  PS X (.Assign [.Name x pos'] e pos) (W3 te (O1 i)):=by
 intro pins s σ H D I h;refine wpAny_Assign_Name (gV (he pins s σ H _ I h) λv s1 ⟨y,H1,I1,r1,q1⟩=>?_) hs;exact yO I1 hN hi hx r1 (λs2 I2=>⟨_,H1,I2,q1⟩) hf
end
structure It where
 go:Nat->Hp->Prop
 Wa:Nat->Hp->V->Hp->Prop
 stop:Nat->Hp->Prop
def uH(X:Cx)(pins:List (ae×Obj))(H:Hp)(b:ae):Prop:=
 H b=none/\b≠X.env.locals/\b∉X.fs/\(b∈X.ex\/X.s₀.heap.objs.size<=b)/\(∀x c,X.env.cells.lookup x=aa c->c≠b)/\∀p∈X.pn++pins,p.1≠b
def Inv.He {X:Cx}{pins:List (ae×Obj)}{σ:St}{H H':Hp}{s:ai}{b:ae}(I:Inv X pins σ H s)(hb:s.heap.objs.size<=b)(hn:H' b=none):uH X pins H' b:=by
 refine⟨hn,AV (fk I.lt hb),I.WN hb,.inr (gW I.sz hb),λx c e z=>?_,λp hp z=>?_⟩
 ·obtain⟨v,q⟩:=I.cell x c e
  exact absurd (fk q.lt (by rw[z];exact hb)) (pq _)
 ·exact absurd (fk (cy (I.pin p hp).1) (by rw[z];exact hb)) (pq _)
structure Turn(P:aO)(w:aD)(K:aj)(tg:ak)(J:It)(fp:List ae)(it:ae)(tn:Nat->au->Prop):Prop where
 mem:it∈fp
 obj:∀i h,tn i h->∀b∈fp,∃o,h.get? b=aa o/\∀v,o.data≠.cell v
 keep:∀i h h',tn i h->(∀b∈fp,∀o,h.get? b=aa o->h'.get? b=aa o)->tn i h'
 item:∀(X:Cx),X.prog=P->X.w=w->X.K=K->X.calm=true->∀(i:Nat)(pins:List (ae×Obj))(s:ai)(σ:St)(H:Hp)(E:ah->ai->Prop),Inv X pins σ H s->(∀b∈fp,uH X pins H b)->tn i s.heap->J.go i H->
  aF (aG P w) X.A (pyNext (.ref it)) (λr s1=>∃u,r=aa u/\
   aF (aG P w) X.A (AW tg (.ref it) u) (λ_ s2=>∃x H',Inv X pins σ H' s2/\RelV x u/\J.Wa i H x H'/\tn (i+1) s2.heap/\∀b∈fp,H' b=none) E s1) E s
 done:∀(X:Cx),X.prog=P->X.w=w->X.K=K->X.calm=true->∀(i:Nat)(pins:List (ae×Obj))(s:ai)(σ:St)(H:Hp)(E:ah->ai->Prop),Inv X pins σ H s->(∀b∈fp,uH X pins H b)->tn i s.heap->J.stop i H->
  aF (aG P w) X.A (pyNext (.ref it)) (λr s1=>r=none/\Inv X pins σ H s1) E s
 self:∀(A:aW)(i:Nat)(s:ai)(Q:ah->ai->Prop)(E:ah->ai->Prop),tn i s.heap->Q (.ref it) s->aF (aG P w) A (pyIter (.ref it)) Q E s
abbrev TI:=St->Hp->(It->Hp->Prop)->Prop
def W4(X:Cx)(pins:List (ae×Obj))(σ:St)(tg:ak)(R:It->Hp->Prop)(itv:ah)(s2:ai):Prop:=
 ∃(it:ae)(fp:List ae)(tn:Nat->au->Prop)(J:It)(H':Hp),itv=.ref it/\Inv X pins σ H' s2/\Turn X.prog X.w X.K tg J fp it tn/\tn 0 s2.heap/\(∀b∈fp,uH X pins H' b)/\R J H'
def PI(X:Cx)(tg iter:ak)(wi:TI):Prop:=
 ∀(pins:List (ae×Obj))(s:ai)(σ:St)(H:Hp)(R:It->Hp->Prop),Inv X pins σ H s->wi σ H R->
  aF (aG X.prog X.w) X.A (aK iter X.env) (λv s1=>aF (aG X.prog X.w) X.A (pyIter v) (W4 X pins σ tg R) X.xe s1) X.xe s
def FH{M:uE}{A:aW}{E:ah->ai->Prop}{s:ai}{tg:ak}{it:ae}{u:ah}{o:Obj}{n:String}{vs:Array ah}{Q:Unit->ai->Prop}(ho:s.heap.get? it=aa o)(hc:o.cls=.type n)(hd:o.data=.fields vs)
  (hn:["enumerate","zip","dict_itemiterator","dict_reverseitemiterator","odict_iterator","itertools.zip_longest","itertools.pairwise"].contains n=false)(hQ:Q () s):aF M A (AW tg (.ref it) u) Q E s:=by
 unfold AW;cases tg<;>first
  |exact cB hQ
  |(cases u<;>first
    |exact cB hQ
    |(refine aP (wpAny_load ho ?_)
      rw[hc,hd];show aF M A (if(["enumerate","zip","dict_itemiterator","dict_reverseitemiterator","odict_iterator","itertools.zip_longest","itertools.pairwise"].contains n&&vs[0]?==aa (pA _))=true then _ else _) Q E s;rw[if_neg (by intro h;rw[hn,cY]at h;cases h)];exact cB hQ))
def Zm(K:aj)(a:ae):It:=
 ⟨λi H=>∃xs x,lB K H a xs/\xs[i]?=aa x,λi H x H'=>H'=H/\∀xs,lB K H a xs->xs[i]?=aa x,λi H=>∃xs,lB K H a xs/\xs.length<=i⟩
def Zn(K:aj)(a:ae):It:=
 ⟨λi H=>∃xs x,DR K H a xs/\xs[i]?=aa x,λi H x H'=>H'=H/\∀xs,DR K H a xs->xs[i]?=aa x,λi H=>∃xs,DR K H a xs/\xs.length<=i⟩
def Wb(lo:Int)(n:Nat):It:=⟨λi _=>i<n,λi H x H'=>H'=H/\x=.int (lo+i),λi _=>n<=i⟩
def Hf{P:aO}{w:aD}{K:aj}{tg:ak}(a it:ae):Turn P w K tg (Zm K a) [it] it (λi h=>h.IsListIter it a i) where
 mem:=by simp
 obj:=λi h st b hb=>by
  have e:b=it:=by simpa using hb
  subst e;obtain⟨o,e,c,d⟩:=st;exact⟨o,e,λv z=>by rw[d]at z;cases z⟩
 keep:=λi h h' st k=>st.at λo e=>k it (by simp) o e
 item:=by intro X hP hw hK hc i pins s σ H E I hf st hg;subst hP hw hK;obtain⟨xs,x,hq,hx⟩:=hg;obtain⟨its,rv,p,hz⟩:=I.list hq;obtain⟨u,hu,ru⟩:=rv.get hx;obtain⟨f0,f1,f2,f3,f4,f5⟩:=hf it (by simp);refine wpAny_pyNext_list_item st p.isList (x:=u) (by simpa using hu) λh' IL sb=>?_;have I1:Inv X pins σ H {s with heap:=h'}:=I.turned (t':=s.toks) (λb o hb e=>(sb.2 b hb).trans e) f0 f1 f3 f4 f5;obtain⟨o,e,c,d⟩:=id IL;exact⟨u,rfl,FH (s:={s with heap:=h'}) e c d (by decide) ⟨x,H,I1,ru,⟨rfl,λys hy=>by rw[I.yP hy hq];exact hx⟩,IL,λb hb=>(hf b hb).1⟩⟩
 done:=by intro X hP hw hK hc i pins s σ H E I hf st hg;subst hP hw hK;obtain⟨xs,hq,hx⟩:=hg;obtain⟨its,rv,p,hz⟩:=I.list hq;obtain⟨f0,f1,f2,f3,f4,f5⟩:=hf it (by simp);have hl:=rv.length;exact wpAny_pyNext_list_end (I.ok.hd hc) st p.isList (by simp;omega) λh' eb=>⟨rfl,I.turned (t':=s.toks) (λb o hb e=>eb b o hb e) f0 f1 f3 f4 f5⟩
 self:=λ_ _ _ _ _ st h=>wpAny_pyIter_listiter st h
def D7{P:aO}{w:aD}{K:aj}{tg:ak}(a it:ae):Turn P w K tg (Zn K a) [it] it (λi h=>h.IsTupleIter it a i) where
 mem:=by simp
 obj:=λi h st b hb=>by
  have e:b=it:=by simpa using hb
  subst e;obtain⟨o,e,c,d⟩:=st;exact⟨o,e,λv z=>by rw[d]at z;cases z⟩
 keep:=λi h h' st k=>st.at λo e=>k it (by simp) o e
 item:=by intro X hP hw hK hc i pins s σ H E I hf st hg;subst hP hw hK;obtain⟨xs,x,hq,hx⟩:=hg;obtain⟨its,rv,p,hz⟩:=I.tuple hq;obtain⟨u,hu,ru⟩:=rv.get hx;obtain⟨f0,f1,f2,f3,f4,f5⟩:=hf it (by simp);refine wpAny_pyNext_tuple_item st (show s.heap.IsTuple a its.toArray from p) (x:=u) (by simpa using hu) λh' IL sb=>?_;have I1:Inv X pins σ H {s with heap:=h'}:=I.turned (t':=s.toks) (λb o hb e=>(sb.2 b hb).trans e) f0 f1 f3 f4 f5;obtain⟨o,e,c,d⟩:=id IL;exact⟨u,rfl,FH (s:={s with heap:=h'}) e c d (by decide) ⟨x,H,I1,ru,⟨rfl,λys hy=>by rw[I.Ah hy hq];exact hx⟩,IL,λb hb=>(hf b hb).1⟩⟩
 done:=by intro X hP hw hK hc i pins s σ H E I hf st hg;subst hP hw hK;obtain⟨xs,hq,hx⟩:=hg;obtain⟨its,rv,p,hz⟩:=I.tuple hq;obtain⟨f0,f1,f2,f3,f4,f5⟩:=hf it (by simp);have hl:=rv.length;exact wpAny_pyNext_tuple_end (I.ok.hd hc) st (show s.heap.IsTuple a its.toArray from p) (by simp;omega) λh' eb=>⟨rfl,I.turned (t':=s.toks) (λb o hb e=>eb b o hb e) f0 f1 f3 f4 f5⟩
 self:=λ_ _ _ _ _ st h=>wpAny_pyIter_tupleiter st h
def D8{P:aO}{w:aD}{K:aj}{tg:ak}(it:ae)(lo:Int)(n:Nat):Turn P w K tg (Wb lo n) [it] it (λi h=>AX h it (lo+(i:Nat)*1) ((n:Int)-(i:Nat)) 1) where
 mem:=by simp
 obj:=λi h st b hb=>by
  have e:b=it:=by simpa using hb
  subst e;exact⟨_,st,λv z=>by have z':LO _=Data.cell v:=z;cases z'⟩
 keep:=λi h h' st k=>k it (by simp) _ st
 item:=by intro X hP hw hK hc i pins s σ H E I hf st hg;subst hP hw hK;obtain⟨f0,f1,f2,f3,f4,f5⟩:=hf it (by simp);have W:=LP (prog:=X.prog) (w:=X.w) (I.ok.hd hc) it lo 1 n;refine W.item i s _ _ hg st λv h' tk hv IL kk=>?_;obtain⟨t,rfl⟩:=hv;have I1:Inv X pins σ H {s with heap:=h',toks:=tk}:=I.turned (λb o hb e=>kk b o (by simpa using hb) e) f0 f1 f3 f4 f5;refine⟨_,rfl,FH (s:={s with heap:=h',toks:=tk}) (n:="range_iterator") IL rfl rfl (by decide) ⟨.int (lo+i),H,I1,⟨t,?_⟩,⟨rfl,rfl⟩,IL,λb hb=>(hf b hb).1⟩⟩;rw[Int.mul_one]
 done:=by intro X hP hw hK hc i pins s σ H E I hf st hg;subst hP hw hK;obtain⟨f0,f1,f2,f3,f4,f5⟩:=hf it (by simp);exact LQ (I.ok.hd hc) st (by have:n<=i:=hg;omega) λh' eb=>⟨rfl,I.turned (t':=s.toks) (λb o hb e=>eb b o hb e) f0 f1 f3 f4 f5⟩
 self:=λ_ _ _ _ _ st h=>LR st h
end L2
namespace L2
open PySem PySem.Spec PyProof.Rows
section
variable{X:Cx}{tg:ak}
def T6(K:aj)(tl:TE):TI:=λσ H R=>tl σ H λx H1=>∃a,x=.ref a/\(∃xs,lB K H1 a xs)/\R (Zm K a) H1
def W5(K:aj)(tl:TE):TI:=λσ H R=>tl σ H λx H1=>∃a,x=.ref a/\(∃xs,DR K H1 a xs)/\R (Zn K a) H1
def LS{l:ak}{tl:TE}(hl:PE X l tl):PI X tg l (T6 X.K tl):=by
 intro pins s σ H R I h;refine gV (hl pins s σ H _ I h) λv s1 ⟨x,H1,I1,r1,q1⟩=>?_;obtain⟨a,e,⟨xs,hq⟩,q⟩:=q1;subst e;cases r1;obtain⟨its,rv,p,hz⟩:=I1.list hq;refine wpAny_pyIter_list p.isList ?_;refine⟨s1.heap.objs.size,[s1.heap.objs.size],_,_,H1,rfl,I1.kept (t':=s1.toks) λb o e=>ej _ e,Hf a _,⟨_,jC _ rfl,rfl,rfl⟩,λb hb=>?_,q⟩;have e:b=s1.heap.objs.size:=by simpa using hb
 subst e;exact I1.He (bZ _) (I1.hok.fresh (bZ _))
def QC{l:ak}{tl:TE}(hl:PE X l tl):PI X tg l (W5 X.K tl):=by
 intro pins s σ H R I h;refine gV (hl pins s σ H _ I h) λv s1 ⟨x,H1,I1,r1,q1⟩=>?_;obtain⟨a,e,⟨xs,hq⟩,q⟩:=q1;subst e;cases r1;obtain⟨its,rv,p,hz⟩:=I1.tuple hq;refine wpAny_pyIter_tuple (show s1.heap.IsTuple a its.toArray from p) ?_;refine⟨s1.heap.objs.size,[s1.heap.objs.size],_,_,H1,rfl,I1.kept (t':=s1.toks) λb o e=>ej _ e,D7 a _,⟨_,jC _ rfl,rfl,rfl⟩,λb hb=>?_,q⟩;have e:b=s1.heap.objs.size:=by simpa using hb
 subst e;exact I1.He (bZ _) (I1.hok.fresh (bZ _))
def IM{pins:List (ae×Obj)}{σ:St}{H:Hp}{s:ai}{R:It->Hp->Prop}{E:ah->ai->Prop}{lo hi:Int}{t u v:Tok}{tk:Nat}(I:Inv X pins σ H s)(h1: -(2^62)<=lo)(h2:lo<2^62)(h3: -(2^62)<=hi)(h4:hi<2^62)
  (q:R (Wb lo (hi-lo).toNat) H):aF (aG X.prog X.w) X.A (pyIter (.ref s.heap.objs.size)) (W4 X pins σ tg R) E {s with heap:=s.heap.push {cls:=.type "range",data:=.fields #[.int lo t,.int hi u,.int 1 v]},toks:=tk}:=by
 refine LU (IsRange.new ..) (small_one h1 h2 h3 h4) ?_;have I1:Inv X pins σ H {s with heap:=s.heap.push {cls:=.type "range",data:=.fields #[.int lo t,.int hi u,.int 1 v]},toks:=tk}:=I.kept λb o e=>ej _ e;refine⟨(s.heap.push {cls:=.type "range",data:=.fields #[.int lo t,.int hi u,.int 1 v]}).objs.size,[(s.heap.push {cls:=.type "range",data:=.fields #[.int lo t,.int hi u,.int 1 v]}).objs.size],_,_,H,rfl,
  I1.kept (t':=tk) λb o e=>ej _ e,D8 _ lo (hi-lo).toNat,?_,λb hb=>?_,q⟩
 ·have e1:lo+((0:Nat):Int)*1=lo:=by simp
  have e2:(((hi-lo).toNat:Nat):Int)-((0:Nat):Int)=jD lo hi 1:=by rw[rangeSize_one];split<;>omega
  show AX _ _ (lo+((0:Nat):Int)*1) ((((hi-lo).toNat:Nat):Int)-((0:Nat):Int)) 1;rw[e1,e2];exact jC _ rfl
 ·have e:b=(s.heap.push {cls:=.type "range",data:=.fields #[.int lo t,.int hi u,.int 1 v]}).objs.size:=by simpa using hb
  subst e;exact I1.He (bZ _) (I1.hok.fresh (bZ _))
def T7(ta:TA):TI:=λσ H R=>ta σ H λvs H1=>∃j:Int,vs=[.int j]/\ -(2^62)<=j/\j<2^62/\R (Wb 0 j.toNat) H1
def Hg{a:ak}{ta:TA}{p pos:Pos}(hg:Gl X "range")(hm:X.mg "range"=none)(ha:PA X [a] ta)(hs:aq [a] X.env=[(false,aK a X.env)]:=by rfl):PI X tg (.Call (.Name "range" p) [a] [] pos) (T7 ta):=by
 intro pins s σ H R I h;refine Call_ (vU I hg hm boot_range (AY (gV (ha pos pins s σ H _ I h) λus s1 ⟨vs,H1,I1,r1,q1⟩=>?_) hs rfl));obtain⟨j,e,q1,q2,q⟩:=q1;subst e;cases r1 with
 |cons r rr=>
  cases rr;obtain⟨t,rfl⟩:=r;exact call_range_1 (IM I1 (by omega) (by omega) q1 q2 (by simpa using q))
noncomputable def W6(wi:TI)(g:TG)(tb:TS):TS:=λD σ H=>wi σ H λJ H1=>∃W:Nat->Nat->St->Hp->Prop,(∃m,W 0 m σ H1)/\∀i m σ H,W i m σ H->
 (J.stop i H/\D.nx σ H)\/(J.go i H/\∃N:St->Hp->Prop,(∀σ' H',N σ' H'->∃m',m'<m/\W (i+1) m' σ' H')/\∀x H',J.Wa i H x H'->g x σ H' λσ2 H2=>tb {D with nx:=N,ct:=N,bk:=D.nx} σ2 H2)
def yQ(fp:List ae)(h:au):List (ae×Obj):=fp.filterMap λb=>(h.get? b).map λo=>(b,o)
def pB{fp:List ae}{h:au}{b:ae}{o:Obj}(hb:b∈fp)(e:h.get? b=aa o):(b,o)∈yQ fp h:=LV.mpr ⟨b,hb,by rw[e];rfl⟩
def Hh{fp:List ae}{h:au}{p:ae×Obj}(hp:p∈yQ fp h):p.1∈fp/\h.get? p.1=aa p.2:=by
 obtain⟨b,hb,e⟩:=LV.mp hp;cases q:h.get? b with
 |none=>rw[q]at e;cases e
 |some o=>
  rw[q]at e;have e':(b,o)=p:=fj.inj e;subst e';exact⟨hb,q⟩
def Inv.pinned {pins:List (ae×Obj)}{σ:St}{H:Hp}{s:ai}{fp:List ae}(I:Inv X pins σ H s)(hf:∀b∈fp,uH X pins H b)(ho:∀b∈fp,∃o,s.heap.get? b=aa o/\∀v,o.data≠.cell v):Inv X (pins++yQ fp s.heap) σ H s:=
 I.Fx λp hp=>(eU.mp hp).elim (λz=>I.pin p (fY _ z)) λz=>by obtain⟨hb,e⟩:=Hh z;obtain⟨f0,f1,f2,_⟩:=hf p.1 hb;obtain⟨o,e',d⟩:=ho p.1 hb;rw[e]at e';cases e';exact⟨e,f0,f1,f2,d⟩
def Inv.qJ {pins pl:List (ae×Obj)}{σ:St}{H:Hp}{s:ai}(I:Inv X (pins++pl) σ H s):Inv X pins σ H s:=I.Fx λp hp=>I.pin p (fY _ (xV _ hp))
def QD{iter:ak}{body:List aB}{wi:TI}{g:TG}{tb:TS}{pos:Pos}(hp:AZ (aG X.prog X.w) X.A X.env X.xe)(hc:X.calm=true)(hi:PI X tg iter wi)(hg:PG X tg g)(hb:qG X body tb)
  (hs:∀x,A0 iter X.env x=bJ x:=by intro _;rfl):PS X (.For tg iter body [] pos) (W6 wi g tb):=by
 intro pins s σ H D I h;refine wpAny_For (gV (hi pins s σ H _ I h) λv s1 h1=>gV h1 λitv s2 h2=>?_) hs;obtain⟨it,fp,tn,J,H2,e,I2,T,QE,f2,W,⟨m0,w0⟩,turn⟩:=h2;subst e;have QF:∀{H':Hp},(∀b∈fp,H' b=none)->∀b∈fp,uH X pins H' b:=λhn b hb=>⟨hn b hb,(f2 b hb).2⟩
 refine codeAny_forLoop_any (λn s'=>∃i σ' H',Inv X pins σ' H' s'/\tn i s'.heap/\(∀b∈fp,H' b=none)/\W i n σ' H') ?_ m0 ⟨0,σ,H2,I2,QE,λb hb=>(f2 b hb).1,w0⟩;rintro n s3 ⟨i,σ3,H3,I3,Zo,Zp,w3⟩;rcases turn i n σ3 H3 w3 with⟨stop,qn⟩|⟨go,N,hN,step⟩
 ·refine xY hp (gV (T.done X rfl rfl rfl hc i pins s3 σ3 H3 X.xe I3 (QF Zp) Zo stop) λr s4 ⟨hr,I4⟩=>?_)
  subst hr;exact rK ⟨σ3,H3,I4,qn⟩
 ·refine xY hp (gV (T.item X rfl rfl rfl hc i pins s3 σ3 H3 X.xe I3 (QF Zp) Zo go) λr s4 ⟨u,hr,h4⟩=>?_)
  subst hr;refine xY hp (gV h4 λ_ s5 ⟨x,H5,I5,r5,y5,Th,Wc⟩=>?_);have I5':=I5.pinned (QF Wc) (T.obj _ _ Th);refine xY hp (gV (hg _ s5 σ3 H5 x u _ I5' r5 (step x H5 y5)) λ_ s6 ⟨σ6,H6,I6,q6⟩=>?_);refine xY hp (gV (hb _ s6 σ6 H6 _ I6 q6) λf s7 q7=>?_);have again:∀{σ7:St}{H7:Hp},Inv X (pins++yQ fp s5.heap) σ7 H7 s7->N σ7 H7->∃m,m<n/\∃i σ' H',Inv X pins σ' H' s7/\tn i s7.heap/\(∀b∈fp,H' b=none)/\W i m σ' H':=λ{σ7 H7} I7 n7=>by obtain⟨m',hm,w7⟩:=hN σ7 H7 n7;refine⟨m',hm,i+1,σ7,H7,I7.qJ,T.keep _ _ _ Th λb hb o e=>(I7.pin (b,o) (fY _ (fY _ (pB hb e)))).1,λb hb=>?_,w7⟩;obtain⟨o,e,d⟩:=T.obj _ _ Th b hb;exact(I7.pin (b,o) (fY _ (fY _ (pB hb e)))).2.1
  cases f with
  |next=>obtain⟨σ7,H7,I7,n7⟩:=q7;exact again I7 n7
  |cont=>obtain⟨σ7,H7,I7,n7⟩:=q7;exact again I7 n7
  |brk=>obtain⟨σ7,H7,I7,q7⟩:=q7;exact⟨σ7,H7,I7.qJ,q7⟩
  |ret v=>obtain⟨x7,σ7,H7,I7,r7,q7⟩:=q7;exact⟨x7,σ7,H7,I7.qJ,r7,q7⟩
end
end L2
namespace L2
open PySem PySem.Spec PyProof.Rows
abbrev R2:=V->V->Hp->VK->Prop
def qz(X:Cx)(f:ah->ah->Sem ah)(r:R2):Prop:=
 ∀(pins:List (ae×Obj))(s:ai)(σ:St)(H:Hp)(x y:V)(v u:ah)(Q:VK),Inv X pins σ H s->RelV x v->RelV y u->r x y H Q->
  aF (aG X.prog X.w) X.A (f v u) (EP X pins σ Q) X.xe s
def Wd(X:Cx)(f:ah->Sem ah)(r:V->Hp->VK->Prop):Prop:=
 ∀(pins:List (ae×Obj))(s:ai)(σ:St)(H:Hp)(x:V)(v:ah)(Q:VK),Inv X pins σ H s->RelV x v->r x H Q->
  aF (aG X.prog X.w) X.A (f v) (EP X pins σ Q) X.xe s
def w6(X:Cx)(f:ah)(r:List V->Hp->VK->Prop):Prop:=
 ∀(pins:List (ae×Obj))(s:ai)(σ:St)(H:Hp)(xs:List V)(us:List ah)(Q:VK),Inv X pins σ H s->Vals xs us->r xs H Q->
  aF (aG X.prog X.w) X.A (call f us) (EP X pins σ Q) X.xe s
def We(r:R2)(ta tb:TE):TE:=λσ H Q=>ta σ H λx H1=>tb σ H1 λy H2=>r x y H2 Q
def tUn(r:V->Hp->VK->Prop)(ta:TE):TE:=λσ H Q=>ta σ H λx H1=>r x H1 Q
def rI(C:Int->Int->Prop)(g:Int->Int->V):R2:=λx y H Q=>∃i j,x=.int i/\y=.int j/\C i j/\Q (g i j) H
def D9(g:Int->Int->V):R2:=λx y H Q=>∃i j,x=.int i/\y=.int j/\Q (g i j) H
def rU(g:Int->V):V->Hp->VK->Prop:=λx H Q=>∃i,x=.int i/\Q (g i) H
section
variable{X:Cx}{a b c:ak}{ta tb tc:TE}{pos:Pos}
def QG(ha:PE X a ta)(hb:PE X b tb){pins:List (ae×Obj)}{s:ai}{σ:St}{H:Hp}{R:V->V->Hp->Prop}(I:Inv X pins σ H s)
  (h:ta σ H λx H1=>tb σ H1 λy H2=>R x y H2){Q:ah->ai->Prop}{f:ah->ah->Sem ah}
  (hf:∀v u s2 x y H2,Inv X pins σ H2 s2->RelV x v->RelV y u->R x y H2->aF (aG X.prog X.w) X.A (f v u) Q X.xe s2):
  aF (aG X.prog X.w) X.A (aK a X.env) (λv s₁=>aF (aG X.prog X.w) X.A (aK b X.env) (λu s₂=>aF (aG X.prog X.w) X.A (f v u) Q X.xe s₂) X.xe s₁) X.xe s:=by
 refine gV (ha pins s σ H _ I h) λv s1 ⟨x,H1,I1,r1,q1⟩=>?_;refine gV (hb pins s1 σ H1 _ I1 q1) λu s2 ⟨y,H2,I2,r2,q2⟩=>?_;exact hf v u s2 x y H2 I2 r1 r2 q2
def CA{op:Operator}{r:R2}(ho:qz X (nc op) r)(ha:PE X a ta)(hb:PE X b tb):PE X (.BinOp a op b pos) (We r ta tb):=by intro pins s σ H Q I h;exact wpAny_BinOp (QG ha hb I h λv u s2 x y H2 I2 rx ry q=>ho pins s2 σ H2 x y v u Q I2 rx ry q)
def T8{op:UnaryOp}{r:V->Hp->VK->Prop}(ho:Wd X (unaryOp op) r)(ha:PE X a ta):PE X (.UnaryOp op a pos) (tUn r ta):=by intro pins s σ H Q I h;exact UnaryOp_ (gV (ha pins s σ H _ I h) λv s1 ⟨x,H1,I1,r1,q1⟩=>ho pins s1 σ H1 x v Q I1 r1 q1)
def Wf{f:ah->ah->Sem ah}{C:Int->Int->Prop}{g:Int->Int->Int}
  (pC:∀(i j:Int)(t u:Tok)(s:ai)(Q:ah->ai->Prop)(E:ah->ai->Prop),C i j->Q (.int (g i j) s.toks) {s with toks:=s.toks+1}->aF (aG X.prog X.w) X.A (f (.int i t) (.int j u)) Q E s):
  qz X f (rI C λi j=>.int (g i j)):=by
 intro pins s σ H x y v u Q I rx ry h;obtain⟨i,j,rfl,rfl,hc,q⟩:=h;obtain⟨t,rfl⟩:=rx;obtain⟨t',rfl⟩:=ry;exact pC i j t t' s _ _ hc ⟨.int (g i j),H,I.tok _,⟨_,rfl⟩,q⟩
def T9{f:ah->ah->Sem ah}{g:Int->Int->Int}
  (pC:∀(i j:Int)(t u:Tok)(s:ai)(Q:ah->ai->Prop)(E:ah->ai->Prop),Q (.int (g i j) s.toks) {s with toks:=s.toks+1}->aF (aG X.prog X.w) X.A (f (.int i t) (.int j u)) Q E s):
  qz X f (D9 λi j=>.int (g i j)):=by
 intro pins s σ H x y v u Q I rx ry h;obtain⟨i,j,rfl,rfl,q⟩:=h;obtain⟨t,rfl⟩:=rx;obtain⟨t',rfl⟩:=ry;exact pC i j t t' s _ _ ⟨.int (g i j),H,I.tok _,⟨_,rfl⟩,q⟩
def LW{f:ah->ah->Sem ah}{g:Int->Int->Bool}
  (pC:∀(i j:Int)(t u:Tok)(s:ai)(Q:ah->ai->Prop)(E:ah->ai->Prop),Q (.bool (g i j)) s->aF (aG X.prog X.w) X.A (f (.int i t) (.int j u)) Q E s):
  qz X f (D9 λi j=>.bl (g i j)):=by
 intro pins s σ H x y v u Q I rx ry h;obtain⟨i,j,rfl,rfl,q⟩:=h;obtain⟨t,rfl⟩:=rx;obtain⟨t',rfl⟩:=ry;exact pC i j t t' s _ _ ⟨.bl (g i j),H,I,rfl,q⟩
def Ua(i j:Int):Prop:=0<j/\j<1073741824
def Ub(i j:Int):Prop:=0<=j/\j<=1000000/\i.natAbs<2^64
def LX(i j:Int):Prop:=(-(2^64)<i/\i<2^64)\/(-(2^64)<j/\j<2^64)
def LX.ok {i j:Int}(h:LX i j):IntMulOk i j:=by
 rcases h with⟨h1,h2⟩|⟨h1,h2⟩
 ·exact .of_left (intBits_le_64 h1 h2)
 ·exact .of_right (intBits_le_64 h1 h2)
def cJ:qz X (nc .Add) (D9 λi j=>.int (i+j)):=T9 λ_ _ _ _ _ _ _ q=>add_int q
def ji:qz X (nc .Sub) (D9 λi j=>.int (i-j)):=T9 λ_ _ _ _ _ _ _ q=>sub_int q
def A1:qz X (nc .Mult) (rI LX λi j=>.int (i*j)):=Wf λ_ _ _ _ _ _ _ hc q=>mul_int q hc.ok
def ie:qz X (nc .FloorDiv) (rI Ua λi j=>.int (i/j)):=Wf λi j _ _ _ _ _ hc q=>by have h1:(0:Int)<j:=hc.1;have h2:j<1073741824:=hc.2;exact floordiv_int (by omega) (by rw[Int.fdiv_eq_ediv_of_nonneg i (by omega)];exact q) (.inl (LY (by omega)))
def gE:qz X (nc .Mod) (rI (λ_ j=>0<j) λi j=>.int (i%j)):=Wf λi j _ _ _ _ _ hc q=>by have h1:(0:Int)<j:=hc;exact mod_int' (by omega) (by rw[Int.fmod_eq_emod_of_nonneg i (by omega)];exact q)
def QH:qz X (nc .Pow) (rI Ub λi j=>.int (i^j.toNat)):=Wf λ_ _ _ _ _ _ _ hc q=>pow_int_small hc.1 hc.2.1 hc.2.2 q
def unI{f:ah->Sem ah}{g:Int->Int}
  (pC:∀(i:Int)(t:Tok)(s:ai)(Q:ah->ai->Prop)(E:ah->ai->Prop),Q (.int (g i) s.toks) {s with toks:=s.toks+1}->aF (aG X.prog X.w) X.A (f (.int i t)) Q E s):
  Wd X f (rU λi=>.int (g i)):=by
 intro pins s σ H x v Q I rx h;obtain⟨i,rfl,q⟩:=h;obtain⟨t,rfl⟩:=rx;exact pC i t s _ _ ⟨.int (g i),H,I.tok _,⟨_,rfl⟩,q⟩
def gk:Wd X (unaryOp .USub) (rU λi=>.int (-i)):=unI λ_ _ _ _ _ q=>neg_int q
end
noncomputable def W7:V->V->Bool
 |.non,.non=>true|.non,.int _=>true|.int _,.non=>true|.non,.bl _=>true|.bl _,.non=>true|.non,.str _=>true|.str _,.non=>true
 |.int _,.int _=>true|.bl _,.bl _=>true|.str _,.str _=>true|.Il _,.Il _=>true
 |.int _,.str _=>true|.str _,.int _=>true|.bl _,.str _=>true|.str _,.bl _=>true
 |_,_=>false
def rEq:R2:=λx y H Q=>W7 x y=true/\Q (.bl (decide (x=y))) H
def LZ{i j:Int}:decide (V.int i=V.int j)=(i==j):=by rw[xZ];simp
def QI{i j:Bool}:decide (V.bl i=V.bl j)=(i==j):=by rw[xZ];simp
def L4{i j:Str}:decide (V.str i=V.str j)=(i==j):=by rw[xZ];simp
def L5{i j:Array UInt8}:decide (V.Il i=V.Il j)=(i.toList==j.toList):=by rw[xZ];cases i;cases j;simp
section
variable{X:Cx}{a b c:ak}{ta tb tc:TE}{pos:Pos}
def g6{pins:List (ae×Obj)}{σ:St}{H:Hp}{s:ai}{Q:VK}{k k':Bool}(I:Inv X pins σ H s)(q:Q (.bl k) H)(e:k=k'):EP X pins σ Q (.bool k') s:=by subst e;exact⟨.bl k,H,I,rfl,q⟩
def IP:qz X (dE .Eq) rEq:=by
 intro pins s σ H x y v u Q I rx ry h;obtain⟨hs,q⟩:=h;cases x with
 |non=>
  cases rx;cases y with
  |non=>cases ry;exact PySem.EqNone.eq_none_none (g6 I q (by simp))
  |bl j=>cases ry;exact PySem.EqNone.eq_none_bool (g6 I q (by simp))
  |int j=>obtain⟨t',rfl⟩:=ry;exact PySem.EqNone.eq_none_int (g6 I q (by simp))
  |str j=>obtain⟨t',rfl⟩:=ry;exact PySem.EqNone.eq_none_str (g6 I q (by simp))
  |_=>exact absurd (show false=true from hs) gu
 |bl i=>
  cases rx;cases y with
  |non=>cases ry;exact PySem.EqNone.eq_bool_none (g6 I q (by simp))
  |bl j=>cases ry;exact eq_bool (g6 I q QI)
  |str j=>obtain⟨t',rfl⟩:=ry;exact PySem.EqMixed.eq_bool_str (g6 I q (by simp))
  |_=>exact absurd (show false=true from hs) gu
 |int i=>
  obtain⟨t,rfl⟩:=rx;cases y with
  |non=>cases ry;exact PySem.EqNone.eq_int_none (g6 I q (by simp))
  |int j=>obtain⟨t',rfl⟩:=ry;exact eq_int (g6 I q LZ)
  |str j=>obtain⟨t',rfl⟩:=ry;exact PySem.EqMixed.eq_int_str (g6 I q (by simp))
  |_=>exact absurd (show false=true from hs) gu
 |str i=>
  obtain⟨t,rfl⟩:=rx;cases y with
  |non=>cases ry;exact PySem.EqNone.eq_str_none (g6 I q (by simp))
  |bl j=>cases ry;exact PySem.EqMixed.eq_str_bool (g6 I q (by simp))
  |int j=>obtain⟨t',rfl⟩:=ry;exact PySem.EqMixed.eq_str_int (g6 I q (by simp))
  |str j=>obtain⟨t',rfl⟩:=ry;exact eq_str (g6 I q L4)
  |_=>exact absurd (show false=true from hs) gu
 |Il i=>
  obtain⟨t,rfl⟩:=rx;cases y with
  |Il j=>obtain⟨t',rfl⟩:=ry;exact PySem.W.eq_bytes (g6 I q L5)
  |_=>exact absurd (show false=true from hs) gu
 |_=>cases y<;>exact absurd (show false=true from hs) gu
def oF:qz X (dE .Lt) (D9 λi j=>.bl (decide (i<j))):=LW λ_ _ _ _ _ _ _ q=>lt_int q
def IQ:qz X (dE .LtE) (D9 λi j=>.bl (decide (i<=j))):=LW λ_ _ _ _ _ _ _ q=>le_int q
def w9:qz X (dE .Gt) (D9 λi j=>.bl (decide (j<i))):=LW λ_ _ _ _ _ _ _ q=>gt_int q
def IS:qz X (dE .GtE) (D9 λi j=>.bl (decide (j<=i))):=LW λ_ _ _ _ _ _ _ q=>ge_int q
def pD:qz X (dE .Is) (λx y H Q=>y=.non/\Q (.bl (decide (x=.non))) H):=by
 intro pins s σ H x y v u Q I rx ry h;obtain⟨rfl,q⟩:=h;cases ry;refine is_none_gen (g6 I q ?_);cases x<;>first
  |(cases rx;rfl)
  |(obtain⟨t,rfl⟩:=rx;rfl)
def L6:qz X (dE .IsNot) (λx y H Q=>y=.non/\Q (.bl (!decide (x=.non))) H):=by
 intro pins s σ H x y v u Q I rx ry h;obtain⟨rfl,q⟩:=h;cases ry;refine isnot_none_gen (g6 I q ?_);cases x<;>first
  |(cases rx;rfl)
  |(obtain⟨t,rfl⟩:=rx;rfl)
def aI(b:ak){op:jc}(h:op≠.In:=by decide)(h2:op≠.NotIn:=by decide):pF op b=false:=by
 have e1:(op==jc.In)=false:=by cases op<;>first|rfl|exact absurd rfl h
 have e2:(op==jc.NotIn)=false:=by cases op<;>first|rfl|exact absurd rfl h2
 cases b<;>simp[pF,e1,e2]
def FI{op:jc}{r:R2}(ho:qz X (dE op) r)(ha:PE X a ta)(hb:PE X b tb)(hm:pF op b=false):PE X (.Compare a [op] [b] pos) (We r ta tb):=by intro pins s σ H Q I h;exact wpAny_Compare1 (QG ha hb I h λv u s2 x y H2 I2 rx ry q=>ho pins s2 σ H2 x y v u Q I2 rx ry q) hm
def O2(t:TE):TT:=λσ H Q=>t σ H λx H'=>∃k,x=.bl k/\Q k H'
def lJ{op:jc}{r:R2}(ho:qz X (dE op) r)(ha:PE X a ta)(hb:PE X b tb)(hm:pF op b=false):PT X (.Compare a [op] [b] pos) (O2 (We r ta tb)):=by
 intro pins s σ H Q I h;refine wpAny_isTrue_Compare1 (gV (ha pins s σ H _ I h) λv s1 ⟨x,H1,I1,r1,q1⟩=>gV (hb pins s1 σ H1 _ I1 q1) λu s2 ⟨y,H2,I2,r2,q2⟩=>
  gV (ho pins s2 σ H2 x y v u _ I2 r1 r2 q2) λc s3 ⟨z,H3,I3,r3,k,e,q3⟩=>?_) hm
 subst e;cases r3;exact rJ ⟨H3,I3,q3⟩
def IU(r r':R2)(ta tb tc:TE):TE:=λσ H Q=>ta σ H λx H1=>tb σ H1 λy H2=>r x y H2 λz H3=>∃k,z=.bl k/\
 (if k=true then tc σ H3 λw' H4=>r' y w' H4 Q else Q (.bl false) H3)
def IV{op Ea:jc}{r r':R2}(ho:qz X (dE op) r)(D6:qz X (dE Ea) r')(ha:PE X a ta)(hb:PE X b tb)(hc:PE X c tc)
  (hm:A2 [op,Ea] [b,c]=false:=by with_unfolding_all rfl):PE X (.Compare a [op,Ea] [b,c] pos) (IU r r' ta tb tc):=by
 intro pins s σ H Q I h;refine Compare_chain (gV (ha pins s σ H _ I h) λv s1 ⟨x,H1,I1,r1,q1⟩=>chain_link (gV (hb pins s1 σ H1 _ I1 q1) λu s2 ⟨y,H2,I2,r2,q2⟩=>
  gV (ho pins s2 σ H2 x y v u _ I2 r1 r2 q2) λd s3 ⟨z,H3,I3,r3,k,e,q3⟩=>?_)) hm
 subst e;cases r3;refine rJ ?_;cases k with
 |false=>exact ite_ff ⟨.bl false,H3,I3,rfl,q3⟩
 |true=>exact ite_tt (chain_last (gV (hc pins s3 σ H3 _ I3 q3) λw' s4 ⟨z',H4,I4,r4,q4⟩=>D6 pins s4 σ H4 y z' u w' Q I4 r2 r4 q4))
def IW{op Ea:jc}{r r':R2}(ho:qz X (dE op) r)(D6:qz X (dE Ea) r')(ha:PE X a ta)(hb:PE X b tb)(hc:PE X c tc)
  (hm:A2 [op,Ea] [b,c]=false:=by with_unfolding_all rfl):PT X (.Compare a [op,Ea] [b,c] pos) (O2 (IU r r' ta tb tc)):=by
 intro pins s σ H Q I h;refine isTrue_chain (gV (ha pins s σ H _ I h) λv s1 ⟨x,H1,I1,r1,q1⟩=>test_link (gV (hb pins s1 σ H1 _ I1 q1) λu s2 ⟨y,H2,I2,r2,q2⟩=>
  gV (ho pins s2 σ H2 x y v u _ I2 r1 r2 q2) λd s3 ⟨z,H3,I3,r3,k,e,q3⟩=>?_)) hm
 subst e;cases r3;refine rJ ?_;cases k with
 |false=>
  obtain⟨k',e',q'⟩:=q3;cases e';exact ite_ff ⟨H3,I3,q'⟩
 |true=>
  refine ite_tt (test_last (gV (hc pins s3 σ H3 _ I3 q3) λw' s4 ⟨z',H4,I4,r4,q4⟩=>gV (D6 pins s4 σ H4 y z' u w' _ I4 r2 r4 q4) λd' s5 ⟨z2,H5,I5,r5,k2,e2,q5⟩=>?_));subst e2;cases r5;exact rJ ⟨H5,I5,q5⟩
def yR:(aQ:Nat)<2^63:=by rw[FJ];decide
def vals1{x:V}{us:List ah}(r:Vals [x] us):∃u,us=[u]/\RelV x u:=by
 cases r with
 |cons r1 r2=>cases r2;exact⟨_,rfl,r1⟩
def vals2{x y:V}{us:List ah}(r:Vals [x,y] us):∃u w',us=[u,w']/\RelV x u/\RelV y w':=by
 cases r with
 |cons r1 r2=>
  cases r2 with
  |cons r3 r4=>cases r4;exact⟨_,_,rfl,r1,r3⟩
def gO:w6 X (.builtin "abs") (λxs H Q=>∃i,xs=[.int i]/\Q (.int (if i<0 then-i else i)) H):=by intro pins s σ H xs us Q I r h;obtain⟨i,rfl,q⟩:=h;obtain⟨u,rfl,t,rfl⟩:=vals1 r;exact call_abs_int λu tk=>⟨.int (if i<0 then-i else i),H,I.tok _,⟨_,rfl⟩,q⟩
def Hi(hc:X.calm=true):w6 X (.builtin "max") (λxs H Q=>∃i j,xs=[.int i,.int j]/\Q (.int (if j>i then j else i)) H):=by
 intro pins s σ H xs us Q I r h;obtain⟨i,j,rfl,q⟩:=h;obtain⟨u,w',rfl,⟨t,rfl⟩,⟨t',rfl⟩⟩:=vals2 r;refine max_two_ints (I.ok.hd hc) λh' tk k=>⟨_,H,I.kept k,?_,q⟩
 by_cases hj:j>i
 ·rw[if_pos hj,if_pos hj];exact⟨_,rfl⟩
 ·rw[if_neg hj,if_neg hj];exact⟨_,rfl⟩
def Uc(K:aj)(x:V)(H:Hp)(n:Nat):Prop:=
 match x with
 |.str y=>y.length<=aQ/\n=y.length
 |.Il y=>y.size<=aQ/\n=y.size
 |.ref p=>(∃xs,lB K H p xs/\n=xs.length)\/∃xs,DR K H p xs/\n=xs.length
 |_=>False
def cj:w6 X (.builtin "len") (λxs H Q=>∃x n,xs=[x]/\Uc X.K x H n/\Q (.int n) H):=by
 intro pins s σ H xs us Q I r h;obtain⟨x,n,rfl,e,q⟩:=h;obtain⟨u,rfl,rx⟩:=vals1 r;have hl:=yR;have hs:aQ=16777216:=FJ;cases x with
 |str y=>
  obtain⟨t,rfl⟩:=rx;obtain⟨hy,e'⟩:y.length<=aQ/\n=y.length:=e;subst e';exact len_str (by omega) ⟨.int _,H,I.tok _,⟨_,rfl⟩,q⟩
 |Il y=>
  obtain⟨t,rfl⟩:=rx;obtain⟨hy,e'⟩:y.size<=aQ/\n=y.size:=e;subst e';exact PySem.W.len_bytes (by omega) ⟨.int _,H,I.tok _,⟨_,rfl⟩,q⟩
 |ref p=>
  cases rx;have e':(∃xs,lB X.K H p xs/\n=xs.length)\/∃xs,DR X.K H p xs/\n=xs.length:=e;rcases e' with⟨xs,hx,e'⟩|⟨xs,hx,e'⟩
  ·subst e'
   obtain⟨its,r',pl,hz⟩:=I.list hx;have hlen:=r'.length;exact L7 pl.isList (by simp only [dY];omega) ⟨.int xs.length,H,I.tok _,⟨_,by simp only [dY];rw[hlen]⟩,q⟩
  ·subst e'
   obtain⟨its,r',pl,hz⟩:=I.tuple hx;have hlen:=r'.length;exact len_tuple pl (by simp only [dY];omega) ⟨.int xs.length,H,I.tok _,⟨_,by simp only [dY];rw[hlen]⟩,q⟩
 |_=>exact(show False from e).elim
end
end L2
namespace L2
open PySem PySem.Spec PyProof.Rows
structure Eb(h:au)(x dx C:ae)(mA:Str->Option ah):Prop where
 obj:h.get? x=aa (ph C dx)
 ns:h.Ns1 dx mA
 ne:dx≠x
def Hj{h:au}{dx:ae}{mA:Str->Option ah}(n:h.Ns1 dx mA):∃od,h.get? dx=aa od/\∀name,A3 name od=aa (mA name):=by
 obtain⟨o,es,ep,ho,hd,hk,_,hm⟩:=n;refine⟨o,ho,λname=>?_⟩;have e:=hm name;unfold nsFind findBy at e;rw[<-Array.find?_toList]at e;unfold A3;rw[hd];dsimp only;split
 ·rename_i y q
  rw[q]at e;exact congrArg aa e
 ·rename_i q
  rw[q]at e;have a:es.toList.any (·.refKey)=false:=by rw[List.any_eq_false];intro y hy;obtain⟨z,t,hkey⟩:=hk y (Array.mem_toList_iff.mp hy);simp[A4.refKey,hkey]
  have a':¬es.toList.any (·.refKey)=true:=by rw[a];exact gu
  rw[if_neg a'];exact congrArg aa e
def Eb.look {h:au}{x dx C:ae}{mA:Str->Option ah}(I:Eb h x dx C mA):∃od,L8 h x (ph C dx) C (aa od)/\∀name,A3 name od=aa (mA name):=
 let⟨od,ho,hl⟩:=Hj I.ns
 ⟨od,⟨I.obj,rfl,rfl,ho⟩,hl⟩
section
variable{prog:aO}{w:aD}{A:aW}{E:ah->ai->Prop}{s:ai}{K:aj}{x dx C f:ae}{mA:Str->Option ah}{name:Str}{v:ah}
def get_map{expr:Bool}{Q:ah->ai->Prop}(X:K.In s.heap)(I:Eb s.heap x dx C mA)(hg:x8 K C name=true)(hh:A5 K C=true)
  (ha:eZ K (.ref C) name=aa none)(hv:mA name=aa v)(W8:L9 v=true)(h:Q v {s with toks:=s.toks+1}):
  aF (aG prog w) A (getAttr (.ref x) name expr) Q E s:=by
 obtain⟨od,J,hl⟩:=I.look;exact PySem.W.get_value X J (FN hg).1 (PySem.W.findObj_own hh ha rfl (by rw[hl,hv])) W8 h
def IX{pl:Sem Bool}{Q:ah×List ah->ai->Prop}(X:K.In s.heap)(I:Eb s.heap x dx C mA)(hg:x8 K C name=true)
  (hf:eZ K (.ref C) name=aa (aa (.ref f)))(ht:A6 K (.ref f)=true)(hv:mA name=none)(h:Q (.ref f,[.ref x]) s):
  aF (aG prog w) A (pG (.ref x) name pl) Q E s:=by
 obtain⟨od,J,hl⟩:=I.look;exact PySem.W.method_fn X J (FN hg).1 (FN hg).2 hf (beq_iff_eq.mp ht) (by show(A3 name od).map (·.isSome)=aa false;rw[hl,hv];rfl) h
def Ma{ns:List Str}{Q:Unit->ai->Prop}(X:K.In s.heap)(I:Eb s.heap x dx C mA)
  (hs:eZ K (.ref C) "__setattr__"=aa (aa (.builtin "object.__setattr__")))(hp:FO K C=true)(ht:FP K C name=aa none)(hh:A5 K C=true)
  (hw:AQ mA ns)(hsz:ns.length<=aQ)
  (h:∀h',Eb h' x dx C (λy=>if y=name then aa v else mA y)->Fy dx s.heap h'->Q () {s with heap:=h',toks:=s.toks+2}):
  aF (aG prog w) A (setAttr (.ref x) name v) Q E s:=by
 obtain⟨od,J,hl⟩:=I.look;refine PySem.W.set_plain X J hs (PySem.W.osa_open (s:={s with toks:=s.toks+1}) (r:=none) X J hp ht λb=>?_);obtain⟨cd,hc,WO⟩:=PySem.W.any_some hh;have hx:s.heap.get? x=aa ⟨.ref C,aa dx,.plain,#[]⟩:=I.obj;refine aP (cB (aP (aP (wpAny_loadPart hx (aP (x9.here (s:={s with toks:=s.toks+1}) (PySem.W.looks_clsIn X hc) ?_))))));rw[WO];refine cB (a:=aa dx) (aP (cB (aP ?_)));refine wpAny_nsSet1 (s:={s with toks:=s.toks+1}) I.ns λh' hn2 hs2=>?_;obtain⟨oD,esD,epD,hoD,hdD,hcD⟩:=hn2.count (AQ.cons name v hw);refine aP (wpAny_lookBehind hoD (by rw[hdD];exact pastItsLine_dict (gW hcD (by rw[jE];omega))) ?_);exact cB (h _ ⟨(hs2.2 _ (eT I.ne)).trans I.obj,hn2,I.ne⟩ hs2)
def CB{R:Result->ai->Prop}{vs:List ah}{kw:List (Str×ah)}(X:K.In s.heap)(hm:FQ K C=true)
  (hi:eZ K (.ref C) "__init__"=aa (aa (.ref f)))(hf:typeIn K (.ref f)=aa (.type "function"))
  (h:ng (aG prog w) (A.under (.builtin "type.__call__" ⟨.ref C::vs,kw⟩)) (.call (.ref f) ⟨.ref (s.heap.objs.size+1)::vs,kw⟩) (PySem.W.InitBack (s.heap.objs.size+1) R)
   {s with heap:=(s.heap.push ni).push (ph C s.heap.objs.size)}):
  ng (aG prog w) A (.call (.ref C) ⟨vs,kw⟩) R s:=by
 obtain⟨hh,g,d,t,os⟩:=s;exact PySem.W.make_core (PySem.W.makes_of X hm) (FT X hi) (λself=>PySem.W.bind_fn X self hf) (.inl rfl) h
end
def mf(f:Str)(v:V):List (Str×V)->List (Str×V)
 |[]=>[(f,v)]
 |(g,x)::r=>if g=f then(g,v)::r else(g,x)::mf f v r
theorem xf(f g:Str)(v:V):∀fs:List (Str×V),(mf f v fs).lookup g=if g=f then aa v else fs.lookup g
 |[]=>by
  show kB g [(f,v)]=_
  by_cases h:g=f
  ·have hb:(g==f)=true:=beq_iff_eq.mpr h
   simp only [kB,hb,if_pos h]
  ·have hb:(g==f)=false:=beq_eq_false_iff_ne.mpr h
   simp only [kB,hb,if_neg h]
 |(k,x)::r=>by
  have ih:=xf f g v r;rw[show mf f v ((k,x)::r)=(if k=f then(k,v)::r else(k,x)::mf f v r)from rfl]
  by_cases hk:k=f
  ·rw[if_pos hk]
   by_cases h:g=k
   ·have hb:(g==k)=true:=beq_iff_eq.mpr h
    simp only [kB,hb,if_pos (h.trans hk)]
   ·have hb:(g==k)=false:=beq_eq_false_iff_ne.mpr h
    simp only [kB,hb,if_neg (λe:g=f=>h (e.trans hk.symm))]
  ·rw[if_neg hk]
   by_cases h:g=k
   ·have hb:(g==k)=true:=beq_iff_eq.mpr h
    simp only [kB,hb,if_neg (λe:g=f=>hk (h.symm.trans e))]
   ·have hb:(g==k)=false:=beq_eq_false_iff_ne.mpr h
    simp only [kB,hb];exact ih
theorem vV(f:Str)(v:V):∀fs:List (Str×V),f∈(mf f v fs).map (·.1)/\∀g,g∈fs.map (·.1)->g∈(mf f v fs).map (·.1)
 |[]=>⟨by simp[mf],λg h=>by simp at h⟩
 |(k,x)::r=>by
  obtain⟨i1,i2⟩:=vV f v r;rw[show mf f v ((k,x)::r)=(if k=f then(k,v)::r else(k,x)::mf f v r)from rfl]
  by_cases hk:k=f
  ·rw[if_pos hk]
   subst hk;exact⟨by simp,λg h=>by simpa using h⟩
  ·rw[if_neg hk]
   refine⟨?_,λg h=>?_⟩
   ·rw[nk]
    exact cP _ i1
   ·rw[nk]at h⊢
    rcases bR.mp h with e|e
    ·exact bR.mpr (.inl e)
    ·exact cP _ (i2 g e)
theorem xg(f:Str)(v:V):∀fs:List (Str×V),(mf f v fs).length<=fs.length+1
 |[]=>by simp[mf]
 |(k,x)::r=>by
  have ih:=xg f v r;rw[show mf f v ((k,x)::r)=(if k=f then(k,v)::r else(k,x)::mf f v r)from rfl]
  by_cases hk:k=f
  ·rw[if_pos hk,jE,jE];omega
  ·rw[if_neg hk,jE,jE];omega
def zO.some_of {v:V}{o:Option ah}(r:zO (aa v) o):∃u,o=aa u/\RelV v u:=by
 cases o with
 |none=>exact(show False from r).elim
 |some u=>exact⟨u,rfl,r⟩
def zO.none_of {o:Option ah}(r:zO none o):o=none:=by
 cases o with
 |none=>rfl
 |some u=>exact(show False from r).elim
def Hk{v:V}{u:ah}(r:RelV v u):L9 u=true:=by
 cases v with
 |non=>cases (show u=ah.none from r);rfl
 |bl b=>cases (show u=AM b from r);rfl
 |int i=>obtain⟨t,e⟩:=(show∃t,u=AK i t from r);cases e;rfl
 |str x=>obtain⟨t,e⟩:=(show∃t,u=AL x t from r);cases e;rfl
 |Il b=>obtain⟨t,e⟩:=(show∃t,u=Lz b t from r);cases e;rfl
 |Qw b=>obtain⟨t,e⟩:=(show∃t,u=Fp b t from r);cases e;rfl
 |ref a=>cases (show u=aS a from r);rfl
 |ty n=>cases (show u=AO n from r);rfl
section
variable{P:aO}{w:aD}{H H':Hp}{h h':au}{a C dx:ae}{fs V5:List (Str×V)}
def ya(hok:sU P w H h)(e:H a=aa (.ins C dx fs)):∃mA,Eb h a dx C mA/\(∀f,zO (fs.lookup f) (mA f))/\AQ mA (fs.map (·.1))/\fs.length<=1000/\H dx=aa (.own a):=by
 obtain⟨d,z,ne,ob,mA,n,r,q⟩:=(show gK P w H h a (.ins C dx fs)from hok a _ e)
 exact⟨mA,⟨ob,n,ne⟩,r,q,z,d⟩
end
structure IY(K:aj)(C:ae):Prop where
 pg:x8 K C FU=true
 hd:A5 K C=true
 po:FO K C=true
 sa:eZ K (.ref C) "__setattr__"=aa (aa (.builtin "object.__setattr__"))
def IY.get {K:aj}{C:ae}(c:IY K C)(f:Str):x8 K C f=true:=c.pg
def pH(K:aj)(C:ae)(f:Str):Prop:=eZ K (.ref C) f=aa none
def pH.Ud {K:aj}{C:ae}{f:Str}(n:pH K C f):FP K C f=aa none:=by unfold FP;rw[show eZ K (.ref C) f=aa none from n];rfl
structure Meth(K:aj)(C:ae)(m:Str)(f:ae):Prop where
 at_:eZ K (.ref C) m=aa (aa (.ref f))
 fn:A6 K (.ref f)=true
 kp:jF K (.ref f)=true
section
variable{X:Cx}{pins:List (ae×Obj)}{σ:St}{H:Hp}{s:ai}{a C dx:ae}{fs:List (Str×V)}{f:Str}{v:V}{A:aW}{E:ah->ai->Prop}
def Ec{b:Bool}{Q:ah->ai->Prop}(I:Inv X pins σ H s)(e:H a=aa (.ins C dx fs))(c:IY X.K C)(n:pH X.K C f)(l:fs.lookup f=aa v)
  (h:∀u s',Inv X pins σ H s'->RelV v u->Q u s'):aF (aG X.prog X.w) A (getAttr (.ref a) f b) Q E s:=by
 obtain⟨mA,O,r,_,_,_⟩:=ya I.hok e;obtain⟨u,hu,ru⟩:=zO.some_of (v:=v) (o:=mA f) (by rw[<-l];exact r f);exact get_map I.qy O (c.get f) c.hd n hu (Hk ru) (h u _ (I.tok _) ru)
def tR{m:Str}{g:ae}{pl:Sem Bool}{Q:ah×List ah->ai->Prop}(I:Inv X pins σ H s)(e:H a=aa (.ins C dx fs))(c:IY X.K C)(k:Meth X.K C m g)(l:fs.lookup m=none)
  (h:Q (.ref g,[.ref a]) s):aF (aG X.prog X.w) A (pG (.ref a) m pl) Q E s:=by
 obtain⟨mA,O,r,_,_,_⟩:=ya I.hok e;have hn:mA m=none:=zO.none_of (by rw[<-l];exact r m);exact IX I.qy O (c.get m) k.at_ k.fn hn h
def Ed{y:V}{u:ah}{Q:Unit->ai->Prop}(I:Inv X pins σ H s)(e:H a=aa (.ins C dx fs))(c:IY X.K C)(n:pH X.K C f)(hl:fs.length<1000)(ry:RelV y u)
  (h:∀s',Inv X pins σ (upd H a (.ins C dx (mf f y fs))) s'->Q () s'):aF (aG X.prog X.w) A (setAttr (.ref a) f u) Q E s:=by
 obtain⟨mA,O,r,wi,_,ho⟩:=ya I.hok e;have hz:(fs.map (·.1)).length<=aQ:=by rw[gX,FJ];omega
 refine Ma I.qy O c.sa c.po n.Ud c.hd wi hz λh' O' sb=>h _ ?_;have hd:∃o,h'.get? dx=aa o:=let⟨o,_,_,e',_⟩:=O'.ns;⟨o,e'⟩
 refine I.write (x:=a) (e:=dx) (by rw[e];exact nu) (.inr ho) (λb q hb z=>(sb.2 b hb).trans z) hd ?_;refine⟨by rw[aM O.ne];exact ho,?_,O.ne,O'.obj,_,O'.ns,λg=>?_,λg hg=>?_⟩
 ·have:=xg f y fs;omega
 ·show zO ((mf f y fs).lookup g) (if g=f then aa u else mA g)
  rw[xf]
  by_cases q:g=f
  ·rw[if_pos q,if_pos q];exact ry
  ·rw[if_neg q,if_neg q];exact r g
 ·by_cases q:g=f
  ·rw[q];exact(vV f y fs).1
  ·refine(vV f y fs).2 g (wi g λz=>hg ?_)
   show(if g=f then aa u else mA g)=none;rw[if_neg q];exact z
def Inv.made (I:Inv X pins σ H s):Inv X pins σ (upd (upd H s.heap.objs.size (.own (s.heap.objs.size+1))) (s.heap.objs.size+1) (.ins C s.heap.objs.size []))
  {s with heap:=(s.heap.push ni).push (ph C s.heap.objs.size)}:=by
 have e1:(s.heap.push ni).get? s.heap.objs.size=aa ni:=jC s.heap rfl;have e2:((s.heap.push ni).push (ph C s.heap.objs.size)).get? (s.heap.objs.size+1)=aa (ph C s.heap.objs.size):=by
  have:=jC (s.heap.push ni) (o:=ph C s.heap.objs.size) rfl
  rwa [Mb]at this
 have e3:(s.heap.push ni).Ns s.heap.objs.size (λ_=>none):=⟨ni,#[],_,e1,rfl,(λe he=>absurd he (by simp)),λ_=>rfl⟩
 have I1:=I.laid (a:=s.heap.objs.size) (o:=.own (s.heap.objs.size+1)) (h':=s.heap.push ni) (t':=s.toks) (λb u q=>ej _ q) (bZ _) ⟨_,e1⟩;refine I1.laid (a:=s.heap.objs.size+1) (o:=.ins C s.heap.objs.size []) (t':=s.toks) (λb u q=>ej _ q) (pI (Mb _ _)) ?_;have ne:s.heap.objs.size≠s.heap.objs.size+1:=fX (A7 _);refine⟨by rw[aM ne,aV],yb _,ne,e2,λ_=>none,(au.Ns1.of_empty e3).at λo q=>ej _ q,λ_=>nu,λy hy=>absurd rfl hy⟩
def Mc{prog:aO}{w:aD}{env:Env}{e:ak}{f:Str}{pos:Pos}{s:ai}{Q:ah->ai->Prop}(hb:uI e f env (aK e env)=aK e env)
  (h:aF (aG prog w) A (aK e env) (λo s₁=>aF (aG prog w) A (getAttr o f true) Q E s₁) E s):aF (aG prog w) A (aK (.Attribute e f pos) env) Q E s:=
 Attribute_any_ h (by rw[arm_eval_Attribute,hb])
end
def W9(K:aj)(ta:TE)(f:Str):TE:=λσ H Q=>ta σ H λx H1=>∃a C dx fs v,x=.ref a/\H1 a=aa (.ins C dx fs)/\IY K C/\pH K C f/\fs.lookup f=aa v/\Q v H1
def Xa(K:aj)(ta tv:TE)(f:Str):TS:=λD σ H=>tv σ H λy H1=>ta σ H1 λx H2=>∃a C dx fs,x=.ref a/\H2 a=aa (.ins C dx fs)/\IY K C/\pH K C f/\fs.length<1000/\
 D.nx σ (upd H2 a (.ins C dx (mf f y fs)))
section
variable{X:Cx}{o e value:ak}{f:Str}{pos pos' aaC:Pos}{ta tv:TE}
def gm(he:PE X e ta)(hb:uI e f X.env (aK e X.env)=aK e X.env):PE X (.Attribute e f pos) (W9 X.K ta f):=by intro pins s σ H Q I h;refine Mc hb (gV (he pins s σ H _ I h) λu s1 ⟨x,H1,I1,rx,a,C,dx,fs,v,ex,ea,c,n,l,q⟩=>?_);subst ex;obtain rfl:u=aS a:=rx;exact Ec I1 ea c n l λu' s2 I2 ru=>⟨v,H1,I2,ru,q⟩
def pJ(ha:PE X o ta)(hv:PE X value tv)(hs:jB value (aa (.Attribute o f pos')) pos.line X.env=bJ false):PS X (.Assign [.Attribute o f pos'] value pos) (Xa X.K ta tv f):=by intro pins s σ H D I h;refine plainObj_wpAny_Assign_Attribute (gV (hv pins s σ H _ I h) λu s1 ⟨y,H1,I1,ry,q⟩=>gV (ha pins s1 σ H1 _ I1 q) λov s2 ⟨x,H2,I2,rx,a,C,dx,fs,ex,ea,c,n,l,q2⟩=>?_) hs;subst ex;obtain rfl:ov=aS a:=rx;exact Ed I2 ea c n l ry λs3 I3=>⟨σ,_,I3,q2⟩
end
section
variable{X:Cx}{pins:List (ae×Obj)}{σ:St}{H:Hp}{s:ai}{A:aW}{E:ah->ai->Prop}{Q:ah->ai->Prop}{c:ah}{b:Bool}
inductive xE (K:aj) (H:Hp):V->ah->Prop where
 |non:xE K H .non (.type "NoneType")
 |bl (x:Bool):xE K H (.bl x) (.type "bool")
 |int (i:Int):xE K H (.int i) (.type "int")
 |str (x:Str):xE K H (.str x) (.type "str")
 |Qw (x:UInt64):xE K H (.Qw x) (.type "float")
 |lst {a:ae} {xs:List V} (e:H a=aa (.lst xs)):xE K H (.ref a) (.type "list")
 |zM {a:ae} {o:Obj} {xs:List V} (e:H a=aa (.zM o (.lst xs))):xE K H (.ref a) (.type "list")
 |tup {a:ae} {xs:List V} (e:H a=aa (.tup xs)):xE K H (.ref a) (.type "tuple")
 |dK {a:ae} {kvs:List (Key×V)} (e:H a=aa (.dK kvs)):xE K H (.ref a) (.type "dict")
 |dT {a:ae} {kvs:List (List Key×V)} (e:H a=aa (.dT kvs)):xE K H (.ref a) (.type "dict")
 |ins {a C dx:ae} {fs:List (Str×V)} (e:H a=aa (.ins C dx fs)) (cl:IY K C) (ha:eZ K (.ref C) "__class__"=aa (aa (.builtin "object.__class__")))
   (hn:FW K (.builtin "object.__class__") "__get__"=aa (aa (.builtin "getset_descriptor.__get__"))) (htk:FY K (.builtin "object.__class__")=aa true)
   (hm:FZ K C (.type "object")=aa true):xE K H (.ref a) (.ref C)
def rL{x:V}{u t:ah}(I:Inv X pins σ H s)(rx:RelV x u)(ty:xE X.K H x t)(e:ig X.K t c=aa b)(h:∀tk,Q (.bool b) {s with toks:=tk}):
  aF (aG X.prog X.w) A (call (.builtin "isinstance") [u,c]) Q E s:=by
 cases ty with
 |non=>cases (show u=ah.none from rx);exact gY F0 I.qy nu e (λz=>nomatch z) h
 |bl y=>cases (show u=AM y from rx);exact gY PySem.W.kitx_bool I.qy nu e (λz=>nomatch z) h
 |int i=>obtain⟨t,q⟩:=(show∃t,u=AK i t from rx);cases q;exact gY PySem.W.kitx_int I.qy nu e (λz=>nomatch z) h
 |str y=>obtain⟨t,q⟩:=(show∃t,u=AL y t from rx);cases q;exact gY PySem.W.kitx_str I.qy nu e (λz=>nomatch z) h
 |Qw y=>obtain⟨t,q⟩:=(show∃t,u=Fp y t from rx);cases q;exact gY PySem.W.kitx_float I.qy nu e (λz=>nomatch z) h
 | @lst a xs ea=>
  cases (show u=aS a from rx);obtain⟨_,_,n,_,h1⟩:=(show gK X.prog X.w H s.heap a (.lst xs)from I.hok a _ ea)
  exact gY F2 I.qy ⟨_,h1,rfl⟩ e (λz=>nomatch z) h
 | @zM a ob xs ea=>
  cases (show u=aS a from rx);obtain⟨_,_,_,n,_,h1⟩:=(show gK X.prog X.w H s.heap a (.zM ob (.lst xs))from I.hok a _ ea)
  exact gY F2 I.qy ⟨_,h1,rfl⟩ e (λz=>nomatch z) h
 | @tup a xs ea=>
  cases (show u=aS a from rx);obtain⟨_,_,_,p⟩:=(show gK X.prog X.w H s.heap a (.tup xs)from I.hok a _ ea)
  obtain⟨o,h1,h2,_⟩:=p;exact gY Me I.qy ⟨o,h1,h2⟩ e (λz=>nomatch z) h
 | @dK a kvs ea=>
  cases (show u=aS a from rx);obtain⟨_,_,vs,_,p⟩:=(show gK X.prog X.w H s.heap a (.dK kvs)from I.hok a _ ea)
  obtain⟨o,es,ep,h1,h2,_⟩:=p;exact gY Mf I.qy ⟨o,h1,h2.1⟩ e (λz=>nomatch z) h
 | @dT a kvs ea=>
  cases (show u=aS a from rx);obtain⟨_,_,xs,_,o,es,ep,h1,h2,_⟩:=(show gK X.prog X.w H s.heap a (.dT kvs)from I.hok a _ ea)
  exact gY Mf I.qy ⟨o,h1,h2.1⟩ e (λz=>nomatch z) h
 | @ins a C dx fs ea cl ha hn htk hm=>
  cases (show u=aS a from rx);obtain⟨mA,O,_⟩:=ya I.hok ea;obtain⟨od,J,_⟩:=O.look;exact gY (PySem.W.kitx_own (cl.get _) cl.hd ha hn htk hm) I.qy J e (λz=>nomatch z) h
end
end L2
namespace L2
open PySem PySem.Spec PyProof.Rows
structure bB(k:Nat)(A:aW):Prop where
 hd:A.handled=none
 dp:A.depth+3*k+5<recursionLimit
 un:A.units+16*k+200<rM
def bB.mono {j k:Nat}{A:aW}(r:bB k A)(h:j<=k):bB j A:=⟨r.hd,by have:=r.dp;omega,by have:=r.un;omega⟩
theorem bB.deeper {k:Nat}{A:aW}(r:bB (k+1) A)(env:Env):bB k (A.deeper env):=
 ⟨r.hd,by have:=r.dp;show A.depth+1+3*k+5<_;omega,by have:=r.un;show A.units+3+16*k+200<_;omega⟩
def Ef{A:aW}{C:ae}{us:List ah}{kw:List (Str×ah)}:(A.under (.builtin "type.__call__" ⟨.ref C::us,kw⟩)).depth=A.depth+1:=by first|rfl|simp[F3,pK.weight,pK.isCreation,pK.isGuard,pK.isCaller,Mi,F4,guardIds]
def Eg{A:aW}{C:ae}{us:List ah}{kw:List (Str×ah)}:(A.under (.builtin "type.__call__" ⟨.ref C::us,kw⟩)).units=A.units+1:=by first|rfl|simp[F3,pK.cUnits,Mi,F4]
def bB.make {k:Nat}{A:aW}(r:bB (k+1) A)(C:ae)(us:List ah)(kw:List (Str×ah)):bB k (A.under (.builtin "type.__call__" ⟨.ref C::us,kw⟩)):=
 ⟨r.hd,by have:=r.dp;rw[Ef];omega,by have:=r.un;rw[Eg];omega⟩
theorem bB.depth {k:Nat}{A:aW}(r:bB k A):A.depth<recursionLimit:=by have:=r.dp;omega
def QJ:TA:=λ_ H Q=>Q [] H
def O3(ta:TE)(tr:TA):TA:=λσ H Q=>ta σ H λx H1=>tr σ H1 λxs H2=>Q (x::xs) H2
section
variable{X:Cx}{e:ak}{es:List ak}{te:TE}{t:TA}{pos:Pos}
def cX:PA X [] QJ:=λ_ _ _ _ H Q I h=>Calls.spliced_nil ⟨[],H,I,.nil,h⟩
def aX(ha:PE X e te)(hr:PA X es t)(hs:aq (e::es) X.env=(false,aK e X.env)::aq es X.env:=by rfl):PA X (e::es) (O3 te t):=by intro pos pins s σ H Q I h;rw[hs];show aF _ _ (spliced ((false,aK e X.env)::bY pos (aq es X.env))) _ _ s;refine Calls.spliced_cons (gV (ha pins s σ H _ I h) λu s1 ⟨x,H1,I1,r1,q1⟩=>?_);exact gV (hr pos pins s1 σ H1 _ I1 q1) λus s2 ⟨xs,H2,I2,r2,q2⟩=>⟨x::xs,H2,I2,.cons r1 r2,q2⟩
def Xb(t:TA):TE:=λσ H Q=>t σ H λxs H1=>xs.length<=aQ/\∀p,H1 p=none->Q (.ref p) (upd H1 p (.tup xs))
def Xd(t:TA):TE:=λσ H Q=>t σ H λxs H1=>xs.length<=aQ/\∀p,H1 p=none->Q (.ref p) (upd H1 p (.lst xs))
def qK{x1}(h:PA X es t):PE X (.Tuple es x1 pos) (Xb t):=by intro pins s σ H Q I hq;refine wpAny_Tuple_spliced (gV (h pos pins s σ H _ I hq) λus s1 ⟨xs,H1,I1,r,z,q⟩=>⟨by rw[<-r.length];exact z,?_⟩);have hf:H1 s1.heap.objs.size=none:=I1.hok.fresh (bZ _);refine⟨.ref s1.heap.objs.size,upd H1 s1.heap.objs.size (.tup xs),I1.laid (t':=s1.toks) (λb u e=>ej _ e) (bZ _) ?_,rfl,q _ hf⟩;exact⟨z,us,r,⟨_,jC _ rfl,rfl,_,rfl⟩⟩
def A8(h:PA X es t):PE X (.List es pos) (Xd t):=by intro pins s σ H Q I hq;refine wpAny_List_spliced (gV (h pos pins s σ H _ I hq) λus s1 ⟨xs,H1,I1,r,z,q⟩=>⟨by rw[<-r.length];exact z,?_⟩);have hf:H1 s1.heap.objs.size=none:=I1.hok.fresh (bZ _);refine⟨.ref s1.heap.objs.size,upd H1 s1.heap.objs.size (.lst xs),I1.laid (t':=s1.toks) (λb u e=>ej _ e) (bZ _) ?_,rfl,q _ hf⟩;exact⟨z,us,0,r,jC _ rfl⟩
end
abbrev Sp:=List V->Hp->VK->XK->Prop
abbrev Hl:=List Env->Hp->ai->XK->ah->ai->Prop
structure Eh(P:aO)(w:aD)(K:aj)(mg:Str->Option ah)(base:au)(A:aW)(outer:List Env)(s:ai)(H:Hp):Prop where
 frames:A.frames=aa outer
 mod:Mod K mg base
 bs:∀b o,base.get? b=aa o->s.heap.get? b=aa o/\H b=none
 Im:base.objs.size<=s.heap.objs.size
 tQ:s.heap.FunFrames base outer
 Ls:∀b∈Cv outer,H b=none
 hok:sU P w H s.heap
 bare:ku s.gens
def CE(outer:List Env)(P:aO)(w:aD)(H:Hp)(s:ai)(Q:VK)(u:ah)(s':ai):Prop:=
 ∃v H',s'.os=s.os/\ku s'.gens/\Un (Cv outer) [] H H' s.heap s'.heap/\sU P w H' s'.heap/\RelV v u/\Q v H'
def CR(CX:Hl)(outer:List Env)(P:aO)(w:aD)(H:Hp)(s:ai)(Q:VK)(E:XK)(r:Result)(s':ai):Prop:=
 match r with
 |.ok (.ret u)=>CE outer P w H s Q u s'
 |.ok _=>False
 |.error e=>CX outer H s E e s'
structure fz(P:aO)(w:aD)(K:aj)(mg:Str->Option ah)(base:au)(CX:Hl)(k:Nat)(f:ae)(fd:aL)(ps:List Str)(sp:Sp):Prop where
 len:∀vs H Q E,sp vs H Q E->vs.length=ps.length
 run:∀(A:aW)(outer:List Env)(s:ai)(H:Hp)(args:Args)(us:List ah)(vs:List V)(Q:VK)(E:XK),bB k A->Eh P w K mg base A outer s H->rN s fd args (ps.zip us)->Vals vs us->sp vs H Q E->
  ng (aG P w) A (.call (.ref f) args) (CR CX outer P w H s Q E) s
def Eh.make {P:aO}{w:aD}{K:aj}{mg:Str->Option ah}{base:au}{A:aW}{outer:List Env}{s:ai}{H:Hp}(e:Eh P w K mg base A outer s H)(C:ae)(us:List ah)(kw:List (Str×ah)):
  Eh P w K mg base (A.under (.builtin "type.__call__" ⟨.ref C::us,kw⟩)) outer s H:=⟨by first|exact e.frames|(simpa[F3,pK.envs,F4,pushEnvs]using e.frames),e.mod,e.bs,e.Im,e.tQ,e.Ls,e.hok,e.bare⟩
section
variable{X:Cx}{pins:List (ae×Obj)}{σ:St}{H:Hp}{s s':ai}
def Inv.Mj (I:Inv X pins σ H s):Eh X.prog X.w X.K X.mg X.base X.A X.stack s H:=
 ⟨I.ok.frames,I.ok.mod,I.bs,gW I.ok.Im I.sz,I.stack,I.xU,I.hok,I.bare⟩
def Inv.after {Q:VK}{u:ah}(I:Inv X pins σ H s)(h:CE X.stack X.prog X.w H s Q u s'):EP X pins σ Q u s':=by obtain⟨v,H',os,bare,un,hok,r,q⟩:=h;obtain⟨hh,g,d,t,dS⟩:=s';obtain rfl:dS=s.os:=os;exact⟨v,H',I.call (h':=hh) (g':=g) (d':=d) (t':=t) (ch:=[]) un hok bare (λb z=>absurd z (by simp)),r,q⟩
end
def Ue(sp:Sp)(zQ:List V)(E:XK)(t:TA):TE:=λσ H Q=>t σ H λvs H1=>sp (vs++zQ) H1 Q E
def O4(C:ae)(m:Str)(sp:Sp)(zQ:List V)(E:XK)(ta:TE)(t:TA):TE:=λσ H Q=>ta σ H λx H1=>∃a dx fs,x=.ref a/\H1 a=aa (.ins C dx fs)/\fs.lookup m=none/\
 t σ H1 λvs H2=>sp (x::(vs++zQ)) H2 Q E
def Ug(C:ae)(sp:Sp)(zQ:List V)(E:XK)(t:TA):TE:=λσ H Q=>t σ H λvs H1=>∀x dx,H1 x=none->H1 dx=none->dx≠x->
 sp (.ref x::(vs++zQ)) (upd (upd H1 dx (.own x)) x (.ins C dx [])) (λv H2=>v=.non/\Q (.ref x) H2) E
def Binds(K:aj)(fd:aL)(ps:List Str)(ds:List ah):Prop:=
 ∀(s:ai)(us:List ah),K.In s.heap->(us++ds).length=ps.length->rN s fd ⟨us,[]⟩ (ps.zip (us++ds))
def Binds.all {K:aj}{fd:aL}{ps:List Str}(h:∀us:List ah,us.length=ps.length->jG fd ⟨us,[]⟩=bJ (ps.zip us)):Binds K fd ps []:=λs us _ hl=>by rw[jd]at hl⊢;exact .of_eq (h us hl)
def Passes(CX:Hl)(X:Cx)(E:XK):Prop:=∀(pins:List (ae×Obj))(σ:St)(H:Hp)(s:ai)(e:ah)(s':ai),Inv X pins σ H s->CX X.stack H s E e s'->X.xe e s'
section
variable{X:Cx}{CX:Hl}{k:Nat}{f C:ae}{fd:aL}{ps:List Str}{sp:Sp}{zQ:List V}{ds:List ah}{E:XK}{x m:Str}{p pos apos:Pos}{e o:ak}{es:List ak}{ta:TE}{t:TA}
def Ei{pins:List (ae×Obj)}{σ:St}{H:Hp}{s:ai}{Q:VK}{us:List ah}{vs:List V}(F:fz X.prog X.w X.K X.mg X.base CX k f fd ps sp)(hr:bB k X.A)(hb:Binds X.K fd ps ds)(hd:Vals zQ ds)(hx:Passes CX X E)
  (I:Inv X pins σ H s)(r:Vals vs us)(h:sp (vs++zQ) H Q E):aF (aG X.prog X.w) X.A (call (.ref f) us) (EP X pins σ Q) X.xe s:=by
 have r2:Vals (vs++zQ) (us++ds):=r.append hd;have hl:(us++ds).length=ps.length:=by rw[<-r2.length];exact F.len _ _ _ _ h
 refine uJ (rO (F.run X.A X.stack s H ⟨us,[]⟩ (us++ds) (vs++zQ) Q E hr I.Mj (hb s us I.qy hl) r2 h) λr s' hq=>?_);cases r with
 |error e=>exact hx pins σ H s e s' I hq
 |ok fl=>
  cases fl with
  |ret u=>exact I.after hq
  |next=>exact dD hq
  |brk=>exact dD hq
  |cont=>exact dD hq
def kC(F:fz X.prog X.w X.K X.mg X.base CX k f fd ps sp)(hr:bB k X.A)(hg:Gl X x)(hm:X.mg x=aa (.ref f))(hk:jF X.K (.ref f)=true)(hb:Binds X.K fd ps ds)(hd:Vals zQ ds)(hx:Passes CX X E)
  (ha:PA X (e::es) t)(hdb:(x==("__debug__":Str))=false:=by decide)(he:aq (e::es) X.env=(false,aK e X.env)::aq es X.env:=by rfl)(hpl:(bY pos (aq es X.env)).any (·.1)=false:=by rfl):
  PE X (.Call (.Name x p) (e::es) [] pos) (Ue sp zQ E t):=by
 intro pins s σ H Q I h;refine yc (rH I hg hm ?_ hdb);refine yd (h₀:=X.base) I.ok.mod.OY hk (gV (ha pos pins s σ H _ I h) λus s1 ⟨vs,H1,I1,r,q⟩=>⟨I1.qy,?_⟩) he hpl;exact Ei F hr hb hd hx I1 r q
def Ml{pl:Sem Bool}(he:PE X o ta)(c:IY X.K C)(hm:Meth X.K C m f)(F:fz X.prog X.w X.K X.mg X.base CX k f fd ps sp)(hr:bB k X.A)(hb:Binds X.K fd ps ds)(hd:Vals zQ ds)(hx:Passes CX X E)(ha:PA X (e::es) t)
  (hst:aq (e::es) X.env=(false,aK e X.env)::aq es X.env:=by rfl)(hpl:(bY pos (aq es X.env)).any (·.1)=false:=by rfl)
  (ht:aK (.Call (.Attribute o m apos) (e::es) [] pos) X.env=(do
   let ov<-aK o X.env
   m9 apos.atName
   let(f,first)<-lH [ov] (pG ov m pl)
   uK pos f first (bY pos (aq (e::es) X.env)) (nv pos (nz [] X.env))):=by rfl):
  PE X (.Call (.Attribute o m apos) (e::es) [] pos) (O4 C m sp zQ E ta t):=by
 intro pins s σ H Q I h;refine F5 (pl:=pl) (gV (he pins s σ H _ I h) λu s1 ⟨x,H1,I1,rx,a,dx,fs,ex,ea,l,q⟩=>?_) ht;subst ex;obtain rfl:u=aS a:=rx;refine tR I1 ea c hm l ?_;refine yd (first:=[.ref a]) (h₀:=X.base) I.ok.mod.OY hm.kp (gV (ha pos pins s1 σ H1 _ I1 q) λus s2 ⟨vs,H2,I2,r,q2⟩=>⟨I2.qy,?_⟩) hst hpl;exact Ei (us:=.ref a::us) (vs:=.ref a::vs) F hr hb hd hx I2 (.cons rfl r) q2
def CC{pl:Sem Bool}(he:PE X o ta)(c:IY X.K C)(hm:Meth X.K C m f)(F:fz X.prog X.w X.K X.mg X.base CX k f fd ps sp)(hr:bB k X.A)(hb:Binds X.K fd ps ds)(hd:Vals zQ ds)(hx:Passes CX X E)
  (ht:aK (.Call (.Attribute o m apos) [] [] pos) X.env=(do
   let ov<-aK o X.env
   m9 apos.atName
   let(f,first)<-lH [ov] (pG ov m pl)
   uK pos f first (bY pos (aq [] X.env)) (nv pos (nz [] X.env))):=by rfl):
  PE X (.Call (.Attribute o m apos) [] [] pos) (O4 C m sp zQ E ta QJ):=by
 intro pins s σ H Q I h;refine F5 (pl:=pl) (gV (he pins s σ H _ I h) λu s1 ⟨x,H1,I1,rx,a,dx,fs,ex,ea,l,q⟩=>?_) ht;subst ex;obtain rfl:u=aS a:=rx;refine tR I1 ea c hm l ?_;exact PySem.W.callWith_K0 (first:=[.ref a]) I1.qy hm.kp (Ei (us:=[.ref a]) (vs:=[.ref a]) F hr hb hd hx I1 (.cons rfl .nil) q)
structure Mk(K:aj)(C f:ae):Prop where
 makes:FQ K C=true
 init:eZ K (.ref C) "__init__"=aa (aa (.ref f))
 fn:A6 K (.ref f)=true
 kp:jF K (.ref C)=true
def IZ{pins:List (ae×Obj)}{σ:St}{H:Hp}{s:ai}{Q:VK}{us:List ah}{vs:List V}(M:Mk X.K C f)(F:fz X.prog X.w X.K X.mg X.base CX k f fd ps sp)(hr:bB (k+1) X.A)(hb:Binds X.K fd ps ds)(hd:Vals zQ ds)
  (hx:Passes CX X E)(I:Inv X pins σ H s)(r:Vals vs us)
  (h:∀x dx,H x=none->H dx=none->dx≠x->sp (.ref x::(vs++zQ)) (upd (upd H dx (.own x)) x (.ins C dx [])) (λv H2=>v=.non/\Q (.ref x) H2) E):
  aF (aG X.prog X.w) X.A (call (.ref C) us) (EP X pins σ Q) X.xe s:=by
 have hq:=h (s.heap.objs.size+1) s.heap.objs.size (I.hok.fresh (Mm _)) (I.hok.fresh (bZ _)) (fX (A7 _));have I2:=Inv.made (C:=C) I;have r2:Vals (V.ref (s.heap.objs.size+1)::(vs++zQ)) (aS (s.heap.objs.size+1)::(us++ds)):=.cons rfl (r.append hd);have hl:(aS (s.heap.objs.size+1)::us++ds).length=ps.length:=by have e:=r2.length;rw[F.len _ _ _ _ hq]at e;exact e.symm
 refine uJ (CB (f:=f) I.qy M.makes M.init (beq_iff_eq.mp M.fn) (rO (F.run _ X.stack _ _ ⟨aS (s.heap.objs.size+1)::us,[]⟩ (aS (s.heap.objs.size+1)::(us++ds)) _ _ E (hr.make C us [])
  (I2.Mj.make C us []) (hb _ (aS (s.heap.objs.size+1)::us) I2.qy hl) r2 hq) λr s' I8=>?_))
 cases r with
 |error e=>exact hx pins σ _ _ e s' I2 I8
 |ok fl=>
  cases fl with
  |ret u=>
   obtain⟨v,H',I3,rv,ev,q3⟩:=I2.after I8;subst ev;exact⟨rv,⟨V.ref (s.heap.objs.size+1),H',I3,rfl,q3⟩⟩
  |next=>exact dD I8
  |brk=>exact dD I8
  |cont=>exact dD I8
def Mp(M:Mk X.K C f)(F:fz X.prog X.w X.K X.mg X.base CX k f fd ps sp)(hr:bB (k+1) X.A)(hg:Gl X x)(hm:X.mg x=aa (.ref C))(hb:Binds X.K fd ps ds)(hd:Vals zQ ds)(hx:Passes CX X E)
  (ha:PA X (e::es) t)(hdb:(x==("__debug__":Str))=false:=by decide)(he:aq (e::es) X.env=(false,aK e X.env)::aq es X.env:=by rfl)(hpl:(bY pos (aq es X.env)).any (·.1)=false:=by rfl):
  PE X (.Call (.Name x p) (e::es) [] pos) (Ug C sp zQ E t):=by
 intro pins s σ H Q I h;refine yc (rH I hg hm ?_ hdb);refine yd (h₀:=X.base) I.ok.mod.OY M.kp (gV (ha pos pins s σ H _ I h) λus s1 ⟨vs,H1,I1,r,q⟩=>⟨I1.qy,?_⟩) he hpl;exact IZ M F hr hb hd hx I1 r q
end
structure bh(N P:List Str)(sc:cO):Prop where
 kind:sc.kind=.function
 co:sc.isCoroutine=false
 gen:sc.isGenerator=false
 nd:N.Nodup
 pre:N.take P.length=P
 par:∀x∈P,sc.names.lookup x=aa .local\/sc.names.lookup x=aa .cell
 QK:∀y∈sc.names,y.2≠.free
theorem Ai{ik:Str->Option gw}{x:Str}:∀{binds:List (Str×ah)}{m:Str->Option ah},(∀v,(x,v)∉binds)->pL ik binds m x=m x
 |[],_,_=>rfl
 |(n,v)::r,m,h=>by
  unfold pL;rw[Ai λw hw=>h w (cP _ hw)];split
  ·have:x≠n:=by rintro rfl;exact h v ky
   simp[this]
  ·rfl
theorem Aj{ik:Str->Option gw}{x:Str}:∀{binds:List (Str×ah)}{m:Str->Option ah},(∀v,(x,v)∉binds)->pM ik binds m x=m x
 |[],_,_=>rfl
 |(n,v)::r,m,h=>by
  unfold pM;rw[Aj λw hw=>h w (cP _ hw)];split
  ·rfl
  ·have:x≠n:=by rintro rfl;exact h v ky
   simp[this]
theorem Ak{ik:Str->Option gw}{x:Str}{v:ah}:∀{P:List Str}{vs:List ah}{i:Nat}{m:Str->Option ah},P.Nodup->P[i]?=aa x->vs[i]?=aa v->ik x=aa .local->
  pL ik (P.zip vs) m x=aa v
 |[],_,_,_,_,h,_,_=>by simp at h
 |_::_,[],_,_,_,_,h,_=>by simp at h
 |p::P,w::vs,0,m,nd,h1,h2,hk=>by simp at h1 h2;subst h1;subst h2;show pL ik ((p,w)::P.zip vs) m p=_;unfold pL;rw[Ai λv hv=>(A9.mp nd).1 (F6 hv).1,if_pos hk];simp
 |p::P,w::vs,i+1,m,nd,h1,h2,hk=>by show pL ik ((p,w)::P.zip vs) m x=_;unfold pL;exact Ak (i:=i) (A9.mp nd).2 (by simpa using h1) (by simpa using h2) hk
theorem Al{ik:Str->Option gw}{x:Str}{v:ah}:∀{P:List Str}{vs:List ah}{i:Nat}{m:Str->Option ah},P.Nodup->P[i]?=aa x->vs[i]?=aa v->ik x≠aa .local->
  pM ik (P.zip vs) m x=aa v
 |[],_,_,_,_,h,_,_=>by simp at h
 |_::_,[],_,_,_,_,h,_=>by simp at h
 |p::P,w::vs,0,m,nd,h1,h2,hk=>by simp at h1 h2;subst h1;subst h2;show pM ik ((p,w)::P.zip vs) m p=_;unfold pM;rw[Aj λv hv=>(A9.mp nd).1 (F6 hv).1,if_neg hk];simp
 |p::P,w::vs,i+1,m,nd,h1,h2,hk=>by show pM ik ((p,w)::P.zip vs) m x=_;unfold pM;exact Al (i:=i) (A9.mp nd).2 (by simpa using h1) (by simpa using h2) hk
def start(N:List Str)(vs:List V):St:=vs.map aa++gx (N.length-vs.length) none
noncomputable def gn(CX:Hl)(P:aO)(w:aD)(K:aj)(mg:Str->Option ah)(base:au)(N:List Str)(qual:Str)(scope:cO)(f:ae)(cd:ah)(A:aW)(outer:List Env)(s:ai)(H:Hp)(E:XK):Cx where
 prog:=P
 w:=w
 K:=K
 mg:=mg
 base:=base
 A:=A.deeper (dF qual scope s.heap.objs.size f cd)
 N:=N
 s₀:=s
 H₀:=H
 env:=dF qual scope s.heap.objs.size f cd
 outer:=outer
 stack:=dF qual scope s.heap.objs.size f cd::outer
 ex:=[]
 calm:=true
 fn:=λ_=>true
 pn:=[]
 xe:=λe s'=>aF (aG P w) (A.deeper (dF qual scope s.heap.objs.size f cd)) (ye (dF qual scope s.heap.objs.size f cd) e) (λ_ Xe=>CX outer H s E e Xe) (λe' Xe=>CX outer H s E e' Xe) s'
def CD{sc:cO}{n:Nat}{x:Str}(h:sc.names.lookup x=aa .cell):∃c,(Ba n sc.names []).lookup x=aa c:=by have q:=Mq sc.names n [] (.inl h);exact yf.mp q
def Hm{CX:Hl}{P:aO}{w:aD}{K:aj}{mg:Str->Option ah}{base:au}{N ps:List Str}{qual:Str}{scope:cO}{f:ae}{cd:ah}{A:aW}{outer:List Env}{s s1:ai}{H:Hp}{E:XK}{us:List ah}{vs:List V}
  (S:bh N ps scope)(hd:A.handled=none)(e0:Eh P w K mg base A outer s H)(hl:vs.length=ps.length)(r:Vals vs us)
  (x:InCallC s s.heap.objs.size (pL (dF qual scope s.heap.objs.size f cd).kindOf (ps.zip us) λ_=>none) (Ba (s.heap.objs.size+1) scope.names []) (pM (dF qual scope s.heap.objs.size f cd).kindOf (ps.zip us) λ_=>none) s1):
  Inv (gn CX P w K mg base N qual scope f cd A outer s H E) [] (start N vs) H s1:=by
 have hpl:ps.length<=N.length:=by have:=congrArg length S.pre;rw[cC]at this;omega
 obtain⟨h1,tk,rfl,hk⟩:=x.done;have Uh:∀b:ae,b∉(gn CX P w K mg base N qual scope f cd A outer s H E).ex:=λb z=>absurd (show b∈([]:List ae)from z) (by simp);refine⟨⟨e0.mod,S.kind,rfl,rfl,bZ _,λy z c h1 h2=>?_,λy hy=>?_,λy c _ h=>?_,λ_=>hd,aW.frames_deeper e0.frames,.inr ⟨rfl,rfl⟩,λb z=>absurd z (Uh b),e0.bs,e0.Im,λb _ _=>Uh b,λb z=>absurd z (Uh b),e0.tQ,e0.Ls⟩,
  rfl,e0.bare,Un.kept hk,⟨_,x.toInCall.ns,λi y v h1 h2 h3=>?_⟩,λy c h=>⟨_,x.cell y c h⟩,e0.hok.fresh (bZ _),λy c h=>?_,λp hp=>absurd (show p∈([]:List (ae×Obj))from hp) (by simp),e0.hok.kept hk,?_⟩
 ·exact name_of_addr x.apart (PySem.mem_of_lookup h1) (PySem.mem_of_lookup h2)
 ·have hy:scope.names.lookup y=aa .cell\/scope.names.lookup y=aa .free:=hy
  rcases hy with hy|hy
  ·exact CD hy
  ·exact absurd rfl (S.QK _ (PySem.mem_of_lookup hy))
 ·exact AS (x.above y c (PySem.mem_of_lookup h))
 ·have hi:i<vs.length:=by
   unfold start at h2
   by_cases hi:i<vs.length
   ·exact hi
   ·rw[gF (by simpa using hi)]at h2
    rw[kD]at h2;split at h2<;>cases h2
  have ha:vs[i]?=aa v:=by
   unfold start at h2;rw[ir (by simpa using hi),dZ]at h2;cases e:vs[i]? with
   |none=>rw[e]at h2;cases h2
   |some a=>rw[e]at h2;cases h2;rfl
  obtain⟨u,hu,rv⟩:=r.get ha;have hp:ps[i]?=aa y:=by rw[<-S.pre,Mr (by omega)];exact h1
  have Zq:ps.Nodup:=by rw[<-S.pre];exact S.nd.sublist (List.take_sublist _ _)
  refine⟨u,rv,?_⟩;rcases S.par y (yg hp)with k|k
  ·exact .inl ⟨k,Ak Zq hp hu k⟩
  ·obtain⟨c,e⟩:=CD (n:=s.heap.objs.size+1) k
   refine .inr ⟨.inl k,c,e,?_⟩;have q:=x.cell y c e;rw[Al Zq hp hu (by show scope.names.lookup y≠_;rw[k];decide)]at q;exact q
 ·exact e0.hok.fresh (AS (x.above y c (PySem.mem_of_lookup h)))
 ·unfold start
  show _=N.length;rw[bz,gX,Bb];omega
def xh{CX:Hl}{P:aO}{w:aD}{K:aj}{mg:Str->Option ah}{base:au}{k:Nat}{f:ae}{name qual:Str}{params:uL}{body:List aB}{scope:cO}{dV kV doc pm cdv ct oc:ah}{an od:Option ae}
  {Bc:Array (Option ah)}{N ps:List Str}{sp:Sp}(lk:K.lookup f=aa ⟨oc,od,.func (fE name qual params body scope dV kV doc pm an cdv ct),Bc⟩)(hcd:uM K cdv qual=true)(S:bh N ps scope)
  (len:∀vs H Q E,sp vs H Q E->vs.length=ps.length)
  (hbody:∀(A:aW)(outer:List Env)(s:ai)(H:Hp)(vs:List V)(Q:VK)(E:XK),bB k (A.deeper (dF qual scope s.heap.objs.size f cdv))->sp vs H Q E->
   ∃t,qG (gn CX P w K mg base N qual scope f cdv A outer s H E) body t/\t {nx:=λ_ H'=>Q .non H',rt:=Q} (start N vs) H):
  fz P w K mg base CX (k+1) f (fE name qual params body scope dV kV doc pm an cdv ct) ps sp:=by
 refine⟨len,λA outer s H args us vs Q E hr e0 hb r O5=>?_⟩;have hl:=len _ _ _ _ O5;have KX:K.In s.heap:=e0.mod.OY.keeps λb o e=>(e0.bs b o e).1;have lim:s.heap.NoLimit:=e0.mod.nolimit.keeps λb o e=>(e0.bs b o e).1;have hkind:∀y∈ps.zip us,scope.names.lookup y.1=aa .local\/(scope.names.lookup y.1=aa .cell/\((Ba (s.heap.objs.size+1) scope.names []).lookup y.1).isSome=true):=λ⟨n,v⟩ hy=>by
  rcases S.par n (F6 hy).1 with q|q
  ·exact .inl q
  ·exact .inr ⟨q,Mq _ _ _ (.inl q)⟩
 refine codeAny_call_function hr.depth (KX _ _ lk) rfl S.co S.gen rfl (PySem.W.codeRec_of KX hcd) (hb _ _ _ _ ?_);refine wpAny_newFunctionEnv_cells S.kind hkind λenv he s1 x=>?_;subst he;refine⟨lim.keeps x.toInCall.keep,codeAny_func ?_⟩;obtain⟨t,ht,hq⟩:=hbody A outer s H vs Q E (hr.deeper _) O5;have I:Inv (gn CX P w K mg base N qual scope f cdv A outer s H E) [] (start N vs) H s1:=Hm S hr.hd e0 hl r x;refine eY (ht [] s1 (start N vs) H _ I hq) (λfl s' hs=>?_) λe s' hs=>hs;have fin:∀{σ':St}{H':Hp}{v:V}{u:ah},Inv (gn CX P w K mg base N qual scope f cdv A outer s H E) [] σ' H' s'->RelV v u->Q v H'->CE outer P w H s Q u s':=
  λ{σ' H' v u} J rv q=>⟨v,H',J.os,J.bare,J.base,J.hok,rv,q⟩
 cases fl with
 |ret u=>
  obtain⟨v,σ',H',J,rv,q⟩:=hs;exact fin J rv q
 |next=>
  obtain⟨σ',H',J,q⟩:=hs;exact fin (v:=V.non) (u:=ah.none) J rfl q
 |brk=>
  obtain⟨_,_,_,q⟩:=hs;exact dD q
 |cont=>
  obtain⟨_,_,_,q⟩:=hs;exact dD q
end L2
namespace L2
open PySem PySem.Spec PyProof.Rows
section
variable{X:Cx}{x:Str}{p pos:Pos}{e:ak}{es:List ak}{t:TA}{id T:String}{r:List V->Hp->VK->Prop}
def Zr(r:List V->Hp->VK->Prop)(t:TA):TE:=λσ H Q=>t σ H λvs H1=>r vs H1 Q
def jH(hc:w6 X (.builtin id) r)(hg:Gl X x)(hm:X.mg x=none)(hv:fy x=aa (.builtin id))(ha:PA X (e::es) t)(hn:x≠"__name__":=by decide)(hdb:(x==("__debug__":Str))=false:=by decide)
  (he:aq (e::es) X.env=(false,aK e X.env)::aq es X.env:=by rfl)(hpl:(bY pos (aq es X.env)).any (·.1)=false:=by rfl):PE X (.Call (.Name x p) (e::es) [] pos) (Zr r t):=by
 intro pins s σ H Q I h;refine yc (vU I hg hm hv ?_ hn hdb);exact PyProof.Rows.callWith_builtin1 (gV (ha pos pins s σ H _ I h) λus s1 ⟨vs,H1,I1,r1,q1⟩=>hc pins s1 σ H1 vs us Q I1 r1 q1) he hpl
def Ho(hc:w6 X (.type T) r)(hg:Gl X x)(hm:X.mg x=none)(hv:fy x=aa (.type T))(ha:PA X (e::es) t)(hn:x≠"__name__":=by decide)(hdb:(x==("__debug__":Str))=false:=by decide)
  (he:aq (e::es) X.env=(false,aK e X.env)::aq es X.env:=by rfl)(hpl:(bY pos (aq es X.env)).any (·.1)=false:=by rfl):PE X (.Call (.Name x p) (e::es) [] pos) (Zr r t):=by
 intro pins s σ H Q I h;refine yc (vU I hg hm hv ?_ hn hdb);exact AY (gV (ha pos pins s σ H _ I h) λus s1 ⟨vs,H1,I1,r1,q1⟩=>hc pins s1 σ H1 vs us Q I1 r1 q1) he hpl
end
end L2
namespace HT
open PySem PyProof.Rows
section
open PySem.SeqAt
open PySem.AutoSeq1 (wpAny_loadPart')
open PySem.MeetsSeq PySem.MeetsSeq2 PySem.MeetsSeq3
end
section
variable{prog:aO}{w:aD}{A:aW}{E:ah->ai->Prop}{s:ai}
def jy(n d:Nat):Option Int->Nat
 |none=>d
 |some v=>if v<0 then(v+(n:Int)).toNat else min v.toNat n
theorem yS(n d:Nat):jy n d none=d:=rfl
def uN(n d k:Nat):jy n d (aa (k:Int))=min k n:=by show(if(k:Int)<0 then((k:Int)+(n:Int)).toNat else min (k:Int).toNat n)=min k n;rw[if_neg (by omega),uO]
def QL(n d:Nat)(hd:d<=n)(o:Option Int):jy n d o<=n:=by
 cases o with
 |none=>exact hd
 |some v=>
  show(if v<0 then(v+(n:Int)).toNat else min v.toNat n)<=n
  by_cases hv:v<0
  ·rw[if_pos hv];omega
  ·rw[if_neg hv];exact Nat.min_le_right _ _
def F7(v:Int)(n d:Nat):(if v<0 then max (v+(n:Int)) 0 else min v (n:Int))=((jy n d (aa v):Nat):Int):=by
 show(if v<0 then max (v+(n:Int)) 0 else min v (n:Int))=(((if v<0 then(v+(n:Int)).toNat else min v.toNat n):Nat):Int)
 by_cases hv:v<0
 ·simp only [if_pos hv];omega
 ·simp only [if_neg hv];omega
def Ej(lo hi:Option Int)(n:Nat):F8 lo hi 1 (n:Int)=(((jy n 0 lo:Nat):Int),((jy n n hi:Nat):Int)):=by
 have h1:¬((1:Int)<0):=by omega
 unfold F8;simp only [h1,if_false];refine Prod.ext ?_ ?_
 ·cases lo with
  |none=>rfl
  |some v=>exact F7 v n 0
 ·cases hi with
  |none=>rfl
  |some v=>exact F7 v n n
def Ek(i j:Nat):Be (i:Int) (j:Int) 1=j-i:=by
 unfold Be;have h1:(1:Int)>0:=by omega
 simp only [h1,if_true,Ms];split<;>omega
def yT{v:ah}{o:Option Int}{Q:Option Int->ai->Prop}(p:pN v o)(h:Q o s):aF (aG prog w) A (yh.Slice.slicePartIndex v) Q E s:=by
 cases p with
 |none=>exact slicePart_none h
 |int i t=>exact slicePart_int h
def vW{sl:ae}{vl vu:ah}{lo hi:Option Int}{n:Nat}{Q:Int×Int×Nat->ai->Prop}(hs:s.heap.IsSliceOf sl vl vu .none)(pl:pN vl lo)(pu:pN vu hi)
  (h:Q (((jy n 0 lo:Nat):Int),1,jy n n hi-jy n 0 lo) s):aF (aG prog w) A (Mt (.ref sl) (bJ (n:Int))) Q E s:=by
 obtain⟨os,hos,hcs,hds⟩:=id hs;unfold Mt yh.Slice.sliceFields;refine aP (aP (rP hos hds (x:=vl) rfl (aP (rP hos hds (x:=vu) rfl (aP (rP hos hds (x:=.none) rfl (cB ?_)))))));refine aP (slicePart_none ?_);show aF _ _ (if((1:Int)==0)=true then _ else _) _ _ s;rw[if_neg (by decide)];refine aP (yT pl (aP (yT pu (aP (cB ?_)))));show aF _ _ (match F8 lo hi 1 (n:Int)with|(lo,hi)=>bJ (lo,(1:Int),Be lo hi 1)) _ _ s;rw[Ej lo hi n];show aF _ _ (bJ (((jy n 0 lo:Nat):Int),(1:Int),Be ((jy n 0 lo:Nat):Int) ((jy n n hi:Nat):Int) 1)) _ _ s;rw[Ek];exact cB h
def I9(xs:Array ah)(i k:Nat):((eR k).filterMap λ(m:Nat)=>xs[((i:Int)+(m:Int)*1).toNat]?).toArray=((xs.toList.drop i).take k).toArray:=by
 have e:(λ(m:Nat)=>xs[((i:Int)+(m:Int)*1).toNat]?)=λm=>xs[i+m]?:=by
  funext m;have:((i:Int)+(m:Int)*1).toNat=i+m:=by omega
  rw[this]
 rw[e];have:=pick_run xs i k;rw[List.filterMap_map]at this;have e2:((λx=>xs[x]?)∘λx=>i+x)=λm=>xs[i+m]?:=rfl;rw[e2]at this;rw[this]
def uP{t sl:ae}{items:Array ah}{vl vu:ah}{lo hi:Option Int}{Q:ah->ai->Prop}(ht:IsTup s.heap t items)(hs:s.heap.IsSliceOf sl vl vu .none)(pl:pN vl lo)(pu:pN vu hi)
  (hw:¬(jy items.size 0 lo=0/\jy items.size items.size hi=items.size))
  (h:Q (.ref s.heap.objs.size) {s with heap:=s.heap.push {cls:=.type "tuple",data:=.seq ((items.toList.drop (jy items.size 0 lo)).take (jy items.size items.size hi-jy items.size 0 lo)).toArray}})
  (hsz:items.size<=aQ):aF (aG prog w) A (yi (.ref t) (.ref sl)) Q E s:=by
 have F9:sizeOk (.seq ((items.toList.drop (jy items.size 0 lo)).take (jy items.size items.size hi-jy items.size 0 lo)).toArray):=by show((items.toList.drop (jy items.size 0 lo)).take (jy items.size items.size hi-jy items.size 0 lo)).toArray.size<=aQ;rw[dY,cC,d7,FD];omega
 have hj:jy items.size items.size hi<=items.size:=QL _ _ (bZ _) hi;obtain⟨os,hos,hcs,hds⟩:=id hs;have hTs:s.TypeIs (.ref sl) "slice":=⟨os,hos,hcs⟩
 unfold yi
 try with_reducible refine Bf ?_
 first|refine aP (cB ?_)|skip
 refine aP (wpAny_sequenceKey ht.typeIs (by decide) ?_);refine aP (wpAny_callSpecial?_slot (name:=cZ "__getitem__") ht.typeIs Ga
  (wpAny_call_entry Ga ht.typeIs entry_tuple_getitem ?_ (args_tuple_getitem _ _)))
 show aF _ _ (yh.Tuple.tupleItemsOf (.ref t)>>=_) _ _ s;refine aP (tupleItemsOf_ ht ?_);refine aP (wpAny_typeOf hTs ?_);rw[if_pos (by decide)];refine aP (vW hs pl pu ?_);have hno:¬((((jy items.size 0 lo:Nat):Int)==0&&(1:Int)==1&&(jy items.size items.size hi-jy items.size 0 lo)==items.size)=true):=by intro q;rw[dM,dM]at q;have q1:((jy items.size 0 lo:Nat):Int)=0:=eq_of_beq q.1.1;have q2:jy items.size items.size hi-jy items.size 0 lo=items.size:=eq_of_beq q.2;exact hw ⟨by omega,by omega⟩
 show aF _ _ (if(((jy items.size 0 lo:Nat):Int)==0&&(1:Int)==1&&(jy items.size items.size hi-jy items.size 0 lo)==items.size)=true then _ else _) _ _ s;rw[if_neg hno,I9]
 first
  |exact aP (m:=Bj _) (uQ (cB ⟨_,rfl,cB h⟩) F9)
  |exact aP (m:=Bj _) (uQ (aP (cB (cB ⟨_,rfl,cB h⟩))) F9)
  |exact aP (aP (m:=Bj _) (uQ (cB (cB ⟨_,rfl,cB h⟩)) F9))
  |exact aP (aP (m:=Bj _) (uQ (cB ⟨_,rfl,cB h⟩) F9))
end
end HT
namespace L2
open PySem PySem.Spec PyProof.Rows
abbrev TO:=St->Hp->(Option Int->Hp->Prop)->Prop
def PO(X:Cx)(e:Option ak)(t:TO):Prop:=
 ∀(pins:List (ae×Obj))(s:ai)(σ:St)(H:Hp)(Q:Option Int->Hp->Prop),Inv X pins σ H s->t σ H Q->
  aF (aG X.prog X.w) X.A (evalPart e X.env) (λu s'=>∃o H',Inv X pins σ H' s'/\pN u o/\Q o H') X.xe s
def Mw:TO:=λ_ H Q=>Q none H
def Ui(t:TE):TO:=λσ H Q=>t σ H λx H1=>∃i,x=.int i/\Q (aa i) H1
section
variable{X:Cx}{e:ak}{te:TE}{lo hi:Option ak}{tl th:TO}{pos p2:Pos}
def yj:PO X none Mw:=by intro pins s σ H Q I h;rw[evalPart_none];exact cB ⟨none,H,I,.none,h⟩
def yk(h:PE X e te):PO X (aa e) (Ui te):=by intro pins s σ H Q I hw;rw[evalPart_some];refine gV (h pins s σ H _ I hw) λu s1 ⟨x,H1,I1,r1,q1⟩=>?_;obtain⟨i,rfl,q⟩:=q1;obtain⟨t,rfl⟩:=r1;exact⟨aa i,H1,I1,.int i t,q⟩
noncomputable def Xf(X:Cx)(r:V->Option Int->Option Int->Hp->VK->Prop):Prop:=
 ∀(pins:List (ae×Obj))(s:ai)(σ:St)(H:Hp)(x:V)(v vl vu:ah)(lo hi:Option Int)(sl:ae)(Q:VK),Inv X pins σ H s->RelV x v->s.heap.IsSliceOf sl vl vu .none->pN vl lo->pN vu hi->r x lo hi H Q->
  ∃T id,typeLookup (.type T) "__getitem__"=bJ (aa (.builtin id))/\s.TypeIs v T/\aF (aG X.prog X.w) X.A (yi v (.ref sl)) (EP X pins σ Q) X.xe s
def tSl(r:V->Option Int->Option Int->Hp->VK->Prop)(te:TE)(tl th:TO):TE:=λσ H Q=>te σ H λx H1=>tl σ H1 λl H2=>th σ H2 λu H3=>r x l u H3 Q
def qL{r:V->Option Int->Option Int->Hp->VK->Prop}(hr:Xf X r)(he:PE X e te)(hl:PO X lo tl)(hu:PO X hi th):PE X (.Subscript e (.Slice lo hi none p2) pos) (tSl r te tl th):=by intro pins s σ H Q I h;refine Subscript_ (gV (he pins s σ H _ I h) λv s1 ⟨x,H1,I1,r1,q1⟩=>?_);refine wpAny_Slice (gV (hl pins s1 σ H1 _ I1 q1) λvl s2 ⟨l,H2,I2,pl,q2⟩=>gV (hu pins s2 σ H2 _ I2 q2) λvu s3 ⟨u,H3,I3,pu,q3⟩=>?_);rw[evalPart_none];refine cB ?_;have I4:Inv X pins σ H3 {s3 with heap:=s3.heap.push {cls:=.type "slice",data:=.fields #[vl,vu,.none]}}:=I3.kept (t':=s3.toks) λb ob q=>ej _ q;obtain⟨T,id,hT,ht,hg⟩:=hr pins {s3 with heap:=s3.heap.push {cls:=.type "slice",data:=.fields #[vl,vu,.none]}} σ H3 x v vl vu l u s3.heap.objs.size Q I4 r1 (au.IsSliceOf.new ..) pl pu q3;show aF (aG X.prog X.w) X.A (subscriptTail e (.Slice lo hi none p2) v (.ref s3.heap.objs.size)) (EP X pins σ Q) X.xe {s3 with heap:=s3.heap.push {cls:=.type "slice",data:=.fields #[vl,vu,.none]}};exact tail_any (ops:=[.ref s3.heap.objs.size,v]) ht hT hg (by with_unfolding_all rfl)
def zR(xs:List V)(lo hi:Option Int):List V:=(xs.drop (HT.jy xs.length 0 lo)).take (HT.jy xs.length xs.length hi-HT.jy xs.length 0 lo)
def xj(xs:List V)(lo hi:Option Int):(zR xs lo hi).length<=xs.length:=by unfold zR;rw[cC,d7];omega
def Xg(K:aj):V->Option Int->Option Int->Hp->VK->Prop:=λx lo hi H Q=>∃a xs,x=.ref a/\DR K H a xs/\
 ¬(HT.jy xs.length 0 lo=0/\HT.jy xs.length xs.length hi=xs.length)/\∀p,H p=none->Q (.ref p) (upd H p (.tup (zR xs lo hi)))
def QM:Xf X (Xg X.K):=by
 intro pins s σ H x v vl vu lo hi sl Q I rx hs pl pu h;obtain⟨a,xs,rfl,hx,hw,q⟩:=h;cases rx;obtain⟨its,r,ht,hz⟩:=I.tuple hx;have hlen:its.toArray.size=xs.length:=by rw[dY];exact r.length.symm
 refine⟨"tuple",_,Ga.lookup,ht.typeIs,?_⟩;refine HT.uP ht hs pl pu (by rw[hlen];exact hw) ?_ (by rw[hlen];exact hz);rw[hlen];refine⟨.ref s.heap.objs.size,_,I.laid (t':=s.toks) (o:=.tup (zR xs lo hi)) (λb ob q=>ej _ q) (bZ _) ?_,rfl,q _ (I.hok.fresh (bZ _))⟩;exact⟨gW (xj xs lo hi) hz,_,(r.drop (HT.jy xs.length 0 lo)).take (HT.jy xs.length xs.length hi-HT.jy xs.length 0 lo),IsTup.new _ _⟩
end
end L2
namespace L2
open PySem PySem.Spec PyProof.Rows
def Hq(n:Nat)(i:Int):Option Nat:=if 0<=i then(if i<n then aa i.toNat else none)else if-(n:Int)<=i then aa (i+n).toNat else none
def nA{α:Type}(xs:List α)(i:Int):Option α:=(Hq xs.length i).bind λj=>xs[j]?
def Mx{n:Nat}{i:Int}{j:Nat}(h:Hq n i=aa j):seqIndex? i n=aa j/\j<n/\ -(n:Int)<=i/\i<n:=by
 unfold Hq at h
 by_cases h0:0<=i
 ·rw[if_pos h0]at h
  by_cases h1:i<n
  ·rw[if_pos h1]at h
   have e:i.toNat=j:=fj.inj h;exact⟨by rw[seqIndex_of h0 h1,e],by omega,by omega,h1⟩
  ·rw[if_neg h1]at h;cases h
 ·rw[if_neg h0]at h
  by_cases h1: -(n:Int)<=i
  ·rw[if_pos h1]at h
   have e:(i+n).toNat=j:=fj.inj h;exact⟨by rw[seqIndex_neg (by omega) h1,e],by omega,h1,by omega⟩
  ·rw[if_neg h1]at h;cases h
def Bk{α:Type}{xs:List α}{i:Int}{v:α}(h:nA xs i=aa v):∃j,seqIndex? i xs.length=aa j/\xs[j]?=aa v/\j<xs.length/\ -(xs.length:Int)<=i/\i<xs.length:=by
 unfold nA at h;cases e:Hq xs.length i with
 |none=>rw[e]at h;cases h
 |some j=>
  rw[e]at h;obtain⟨h1,h2,h3,h4⟩:=Mx e;exact⟨j,h1,h,h2,h3,h4⟩
def Gb{α:Type}{xs:List α}{j:Nat}{v:α}(h:xs[j]?=aa v):nA xs (j:Int)=aa v:=by
 have hj:j<xs.length:=(dX.mp h).1;have e:Hq xs.length (j:Int)=aa j:=by unfold Hq;rw[if_pos (by omega),if_pos (by omega)];simp
 unfold nA;rw[e];exact h
def Ja{α:Type}(xs:List α)(v:α):nA (xs++[v]) (-1)=aa v:=by
 have hl:(xs++[v]).length=xs.length+1:=by simp
 have e:Hq (xs++[v]).length (-1)=aa xs.length:=by unfold Hq;rw[hl,if_neg (by decide),if_pos (by omega)];congr 1;omega
 unfold nA;rw[e];show(xs++[v])[xs.length]?=aa v;simp
def Bl(b:ak):Prop:=∀o i,subscripted b false o i=operate [o,i] (yi o i)
noncomputable def My(X:Cx)(r:R2):Prop:=
 ∀(value slice:ak)(pins:List (ae×Obj))(s:ai)(σ:St)(H:Hp)(x y:V)(v u:ah)(Q:VK),Inv X pins σ H s->RelV x v->RelV y u->r x y H Q->
  subscripted slice false v u=operate [v,u] (yi v u)->aF (aG X.prog X.w) X.A (subscriptTail value slice v u) (EP X pins σ Q) X.xe s
noncomputable def Zs(X:Cx)(id:String)(r:V->List V->Hp->VK->Prop):Prop:=
 ∀(pins:List (ae×Obj))(s:ai)(σ:St)(H:Hp)(x:V)(xs:List V)(v:ah)(us:List ah)(Q:VK),Inv X pins σ H s->RelV x v->Vals xs us->r x xs H Q->
  aF (aG X.prog X.w) X.A (call (.builtin id) (v::us)) (EP X pins σ Q) X.xe s
section
variable{X:Cx}{a b:ak}{ta tb:TE}{pos:Pos}
def My.or {r r':R2}(h:My X r)(h':My X r'):My X (λx y H Q=>r x y H Q\/r' x y H Q):=by
 intro value slice pins s σ H x y v u Q I rx ry q hs;rcases q with q|q
 ·exact h value slice pins s σ H x y v u Q I rx ry q hs
 ·exact h' value slice pins s σ H x y v u Q I rx ry q hs
def sV{r:R2}(hr:My X r)(ha:PE X a ta)(hb:PE X b tb)(hs:Bl b):PE X (.Subscript a b pos) (We r ta tb):=by intro pins s σ H Q I h;exact Subscript_ (QG ha hb I h λv u s2 x y H2 I2 rx ry q=>hr a b pins s2 σ H2 x y v u Q I2 rx ry q (hs _ _))
def Uj(K:aj):R2:=λx y H Q=>∃p xs i v,x=.ref p/\y=.int i/\lB K H p xs/\nA xs i=aa v/\Q v H
def Uk(K:aj):R2:=λx y H Q=>∃p xs i v,x=.ref p/\y=.int i/\DR K H p xs/\nA xs i=aa v/\Q v H
def Ul:R2:=λx y H Q=>∃z i c,x=.str z/\y=.int i/\z.length<=aQ/\nA z.cps.toList i=aa c/\Q (.str ⟨#[c]⟩) H
def Bm:My X (Uj X.K):=by
 intro value slice pins s σ H x y v u Q I rx ry h hs;obtain⟨p,xs,i,z,rfl,rfl,hq,he,q⟩:=h;cases rx;obtain⟨t,rfl⟩:=ry;obtain⟨its,r,pl,hz⟩:=I.list hq;obtain⟨j,h1,h2,h3,h4,h5⟩:=Bk he;obtain⟨w,ew,rQ⟩:=r.get h2;have hl:=r.length;have hn:=yR;have fin:EP X pins σ Q w s:=⟨z,H,I,rQ,q⟩
 by_cases h0:0<=i
 ·have hj:i.toNat=j:=by
   rw[seqIndex_of h0 h5]at h1;exact fj.inj h1
  exact item_listR pl.isList h0 (by omega) (by rw[hj];simpa using ew) fin hs
 ·have hj:(i+(its.toArray.size:Int)).toNat=j:=by
   rw[seqIndex_neg (by omega) h4]at h1;rw[dY,<-hl];exact fj.inj h1
  exact Mz (x:=w) pl.isList.typeIs MA.lookup
   (wpAny_getItem_list_neg (Q:=λr s'=>r=w/\EP X pins σ Q r s') pl.isList (by omega) (by rw[dY]<;>omega) (by omega) (by rw[hj];simpa using ew) ⟨rfl,fin⟩) hs
def qM:My X (Uk X.K):=by
 intro value slice pins s σ H x y v u Q I rx ry h hs;obtain⟨p,xs,i,z,rfl,rfl,hq,he,q⟩:=h;cases rx;obtain⟨t,rfl⟩:=ry;obtain⟨its,r,pl,hz⟩:=I.tuple hq;obtain⟨j,h1,h2,h3,h4,h5⟩:=Bk he;obtain⟨w,ew,rQ⟩:=r.get h2;have hl:=r.length;have hn:=yR;have fin:EP X pins σ Q w s:=⟨z,H,I,rQ,q⟩
 exact Mz (x:=w) pl.typeIs slot_tuple_getitem.lookup
  (getItem_tuple (j:=j) (Q:=λr s'=>r=w/\EP X pins σ Q r s') pl (by omega) (by omega) (by rw[dY,<-hl];exact h1) (by simpa using ew) ⟨rfl,fin⟩) hs
def QN:My X Ul:=by
 intro value slice pins s σ H x y v u Q I rx ry h hs;obtain⟨z,i,c,rfl,rfl,hz,he,q⟩:=h;obtain⟨t,rfl⟩:=rx;obtain⟨t',rfl⟩:=ry;obtain⟨j,h1,h2,h3,h4,h5⟩:=Bk he;have hl:z.cps.toList.length=z.length:=by simp[Str.length]
 rw[hl]at h1 h4 h5;have hn:=yR;exact tail_any (typeIs_str s z t) slot_str_getitem.lookup (getItem_str (c:=c) (by have e1:decide (i< -(2^63:Int))=false:=decide_eq_false (by omega);have e2:decide (i>=2^63)=false:=decide_eq_false (by omega);rw[e1,e2,MB]) (by rw[h1];simpa using h2) ⟨.str ⟨#[c]⟩,H,I.tok _,⟨_,rfl⟩,q⟩) hs
def rIx(K:aj):R2:=λx y H Q=>Uj K x y H Q\/Uk K x y H Q\/Ul x y H Q
def QO:My X (rIx X.K):=Bm.or (qM.or QN)
def Bo(lo hi:Option Int)(n:Nat):(rR lo hi none n).1=((HT.jy n 0 lo:Nat):Int)/\(rR lo hi none n).2.1=((HT.jy n n hi:Nat):Int)/\(rR lo hi none n).2.2=1:=by
 refine⟨?_,?_,rfl⟩
 ·cases lo with
  |none=>simp[rR,HT.jy]
  |some i=>
   simp only [rR,HT.jy,MC,show(1:Int)>0 by decide,if_true]
   by_cases h:i<0
   ·simp only [h,if_true]<;>omega
   ·simp only [h,if_false]<;>omega
 ·cases hi with
  |none=>simp[rR,HT.jy]
  |some i=>
   simp only [rR,HT.jy,MC,show(1:Int)>0 by decide,if_true]
   by_cases h:i<0
   ·simp only [h,if_true]<;>omega
   ·simp only [h,if_false]<;>omega
def zS(its:List ah)(lo hi:Option Int):slicePick its.toArray lo hi none=((its.drop (HT.jy its.length 0 lo)).take (HT.jy its.length its.length hi-HT.jy its.length 0 lo)).toArray:=by obtain⟨h1,h2,h3⟩:=Bo lo hi its.toArray.size;unfold slicePick;rw[h1,h2,h3];simp only [sliceRange_one,pick_run,dY]<;>rfl
def Xh(K:aj):V->Option Int->Option Int->Hp->VK->Prop:=λx lo hi H Q=>∃a xs,x=.ref a/\lB K H a xs/\∀p,H p=none->Q (.ref p) (upd H p (.lst (zR xs lo hi)))
def ym:Xf X (Xh X.K):=by intro pins s σ H x v vl vu lo hi sl Q I rx hs pl pu h;obtain⟨a,xs,rfl,hx,q⟩:=h;cases rx;obtain⟨its,r,ht,hz⟩:=I.list hx;have hlen:=r.length;refine⟨"list",_,MA.lookup,ht.isList.typeIs,?_⟩;refine wpAny_getItem_list_slice ht.isList hs pl pu .none (by simp) ?_ (by rw[dY]<;>omega);rw[zS,<-hlen];refine⟨.ref s.heap.objs.size,_,I.laid (t':=s.toks) (o:=.lst (zR xs lo hi)) (λb ob q=>ej _ q) (bZ _) ?_,rfl,q _ (I.hok.fresh (bZ _))⟩;exact⟨gW (xj xs lo hi) hz,_,0,(r.drop (HT.jy xs.length 0 lo)).take (HT.jy xs.length xs.length hi-HT.jy xs.length 0 lo),jC _ rfl⟩
def lK:w6 X (.builtin "len") (λxs H Q=>∃p ys,xs=[.ref p]/\(lB X.K H p ys\/DR X.K H p ys)/\Q (.int ys.length) H):=by
 intro pins s σ H xs us Q I r h;obtain⟨p,ys,rfl,hq,q⟩:=h;obtain⟨u,rfl,rx⟩:=vals1 r;cases rx;have hn:=yR;rcases hq with hq|hq
 ·obtain⟨its,r',pl,hz⟩:=I.list hq
  have hlen:=r'.length;exact L7 pl.isList (by simp only [dY]<;>omega) ⟨.int ys.length,H,I.tok _,⟨s.toks+1,by rw[dY,hlen]⟩,q⟩
 ·obtain⟨its,r',pl,hz⟩:=I.tuple hq
  have hlen:=r'.length;exact len_tuple pl (by simp only [dY]<;>omega) ⟨.int ys.length,H,I.tok _,⟨s.toks+1,by rw[dY,hlen]⟩,q⟩
def Bp:w6 X (.type "list") (λxs H Q=>∃p ys,xs=[.ref p]/\(lB X.K H p ys\/DR X.K H p ys)/\∀l,H l=none->Q (.ref l) (upd H l (.lst ys))):=by
 intro pins s σ H xs us Q I r h;obtain⟨p,ys,rfl,hq,q⟩:=h;obtain⟨u,rfl,rx⟩:=vals1 r;cases rx;have fin:∀(its:List ah),Vals ys its->ys.length<=aQ->∀(h':au)(c':Nat),(∀b o',s.heap.get? b=aa o'->h'.get? b=aa o')->
   h'.get? s.heap.objs.size=aa {cls:=.type "list",dict:=none,data:=.seq its.toArray c',slots:=#[]}->EP X pins σ Q (.ref s.heap.objs.size) {s with heap:=h'}:=λits r' hz h' c' kp e=>
  ⟨.ref s.heap.objs.size,_,I.laid (t':=s.toks) kp (bZ _) (show gK X.prog X.w _ h' _ (.lst ys)from⟨hz,its,c',r',e⟩),rfl,q _ (I.hok.fresh (bZ _))⟩
 rcases hq with hq|hq
 ·obtain⟨its,r',pl,hz⟩:=I.list hq
  have hlen:=r'.length;obtain⟨o,ho,hc,n,hd⟩:=pl.isList;exact call_list_seq p (.inl rfl) ho hc hd (λh' c' kp e=>fin its r' hz h' c' kp e) (by simp only [dY]<;>omega)
 ·obtain⟨its,r',pl,hz⟩:=I.tuple hq
  have hlen:=r'.length;obtain⟨o,ho,hc,n,hd⟩:=pl;exact call_list_seq p (.inr rfl) ho hc hd (λh' c' kp e=>fin its r' hz h' c' kp e) (by simp only [dY]<;>omega)
noncomputable def Xi(K:aj)(T:String)(x:V)(H:Hp):Prop:=match x with
 |.str _=>T="str"
 |.int _=>T="int"
 |.ref p=>(T="list"/\∃xs,lB K H p xs)\/(T="tuple"/\∃o,K.lookup p=aa o/\o.cls=.type "tuple"/\o.dict=none)\/
   (T="dict"/\((∃kvs,H p=aa (.dK kvs))\/∃kvs,H p=aa (.dT kvs)))\/(T="set"/\∃S n,H p=aa (.set S n))
 |_=>False
def Jb{pins:List (ae×Obj)}{σ:St}{H:Hp}{s:ai}{T:String}{x:V}{v:ah}(I:Inv X pins σ H s)(r:RelV x v)(ty:Xi X.K T x H):
  s.TypeIs v T/\∀a,v=.ref a->∃ob,s.heap.get? a=aa ob/\ob.dict=none:=by
 cases x with
 |str z=>
  obtain⟨t,rfl⟩:=r;cases (show T="str" from ty);exact⟨typeIs_str s z t,λ_ e=>nomatch e⟩
 |int i=>
  obtain⟨t,rfl⟩:=r;cases (show T="int" from ty);exact⟨typeIs_int s i t,λ_ e=>nomatch e⟩
 |ref p=>
  cases r;rcases ty with⟨rfl,xs,hq⟩|⟨rfl,o,hk,hc,hd⟩|⟨rfl,hk⟩|⟨rfl,S,n,hk⟩
  ·obtain⟨its,_,pl,_⟩:=I.list hq
   refine⟨pl.isList.typeIs,λa e=>?_⟩;cases e;obtain⟨o,n,e,c,hd,_⟩:=pl;exact⟨o,e,hd⟩
  ·refine⟨⟨o,I.qy p o hk,hc⟩,λa e=>?_⟩
   cases e;exact⟨o,I.qy _ o hk,hd⟩
  ·have z:∃o,s.heap.get? p=aa o/\o.ExactDict:=by
    rcases hk with⟨kvs,hk⟩|⟨kvs,hk⟩
    ·obtain⟨_,_,_,_,o,_,_,e,ex,_⟩:=I.hok p _ hk
     exact⟨o,e,ex⟩
    ·obtain⟨_,_,_,_,o,_,_,e,ex,_⟩:=I.hok p _ hk
     exact⟨o,e,ex⟩
   obtain⟨o,e,ex⟩:=z;refine⟨⟨o,e,ex.1⟩,λa e2=>?_⟩;cases e2;exact⟨o,e,ex.2.1⟩
  ·obtain⟨o,_,_,_,e,ex,_⟩:=I.hok p _ hk
   refine⟨⟨o,e,ex.1⟩,λa e2=>?_⟩;cases e2;exact⟨o,e,ex.2.1⟩
 |_=>exact dD ty
def Xj(K:aj)(T:String)(r:V->List V->Hp->VK->Prop)(to:TE):TE:=λσ H Q=>to σ H λx H1=>Xi K T x H1/\r x [] H1 Q
def tBM(K:aj)(T:String)(r:V->List V->Hp->VK->Prop)(to:TE)(t:TA):TE:=λσ H Q=>to σ H λx H1=>Xi K T x H1/\t σ H1 λxs H2=>r x xs H2 Q
variable{o e:ak}{es:List ak}{to:TE}{t:TA}{name:Str}{apos fR:Pos}{T id:String}{r:V->List V->Hp->VK->Prop}
def QP(pa:PlainAttrs T)(slot:Slot T name id)(hty:typeOf (.builtin id)=bJ (.type "method_descriptor"))(hm:Zs X id r)(ho:PE X o to)
  (hbase:uI o name X.env (aK o X.env)=aK o X.env:=by rfl)(hline:(apos.endLine==fR.line)=true:=by rfl):PE X (.Call (.Attribute o name apos) [] [] fR) (Xj X.K T r to):=by
 intro pins s σ H Q I h;refine wpAny_Call_method0_late hbase hline (gV (ho pins s σ H _ I h) λv s1 ⟨x,H1,I1,r1,ty,q1⟩=>?_);obtain⟨h1,h2⟩:=Jb I1 r1 ty;exact⟨T,id,pa,slot,hty,h1,h2,MD rfl (PySem.evalArgs_none (hm pins s1 σ H1 x [] v [] Q I1 r1 .nil q1))⟩
def Gd(pa:PlainAttrs T)(slot:Slot T name id)(hty:typeOf (.builtin id)=bJ (.type "method_descriptor"))(hm:Zs X id r)(ho:PE X o to)(ha:PA X (e::es) t)
  (hbase:uI o name X.env (aK o X.env)=aK o X.env:=by rfl)
  (hfew:((bY fR (aq (e::es) X.env)).all (λx=> !x.1)&&(nv fR (nz [] X.env)).all (λx=>x.1.isSome)
   &&decide ((e::es).length+([]:List uR).length+(if([]:List uR).isEmpty then 0 else 1)<30))=true:=by rfl)
  (hline:(apos.endLine==fR.line)=true:=by rfl)(hs:aq (e::es) X.env=(false,aK e X.env)::aq es X.env:=by rfl)(hplain:(bY fR (aq es X.env)).any (·.1)=false:=by rfl):
  PE X (.Call (.Attribute o name apos) (e::es) [] fR) (tBM X.K T r to t):=by
 intro pins s σ H Q I h;refine wpAny_Call_method_late hbase hfew hline rfl (gV (ho pins s σ H _ I h) λv s1 ⟨x,H1,I1,r1,ty,q1⟩=>?_);obtain⟨h1,h2⟩:=Jb I1 r1 ty;refine⟨T,id,pa,slot,hty,h1,h2,?_⟩;have hA:=ha fR pins s1 σ H1 _ I1 q1;rw[hs]at hA⊢;refine MD (by show(false||(bY fR (aq es X.env)).any (·.1))=false;rw[hplain]<;>rfl) (ME ?_);exact gV hA λus s2 ⟨vs,H2,I2,r2,q2⟩=>hm pins s2 σ H2 x vs v us Q I2 r1 r2 q2
end
end L2
namespace L2
open PySem PySem.Spec PyProof.Rows
noncomputable def Zt(X:Cx)(id:String)(r:V->List V->Hp->VK->Prop):Prop:=
 ∀(pins:List (ae×Obj))(s:ai)(σ:St)(H:Hp)(x:V)(xs:List V)(v:ah)(us:List ah)(Q:VK),Inv X pins σ H s->RelV x v->Vals xs us->r x xs H Q->
  aF (aG X.prog X.w) X.A (call (.builtin id) (v::us)) (EP X pins σ Q) X.xe s
def Vals.one:∀{x:V}{us:List ah},Vals [x] us->∃u,us=[u]/\RelV x u
 |_,_,.cons r .nil=>⟨_,rfl,r⟩
def Vals.zero:∀{us:List ah},Vals [] us->us=[]
 |_,.nil=>rfl
theorem Vals.dropLast {xs:List V}{us:List ah}(h:Vals xs us):Vals xs.dropLast us.dropLast:=by
 induction h with
 |nil=>exact .nil
 |cons r t ih=>
  cases t with
  |nil=>exact .nil
  |cons q t'=>exact .cons r ih
def El{α:Type}(l:List α):l.eraseIdx (l.length-1)=l.dropLast:=by
 induction l with
 |nil=>rfl
 |cons a r ih=>
  cases r with
  |nil=>rfl
  |cons b r=>
   have e:(a::b::r).length-1=((b::r).length-1)+1:=by have h1:(a::b::r).length=r.length+2:=rfl;have h2:(b::r).length=r.length+1:=rfl;omega
   rw[e,List.eraseIdx_cons_succ,ih]
   all_goals rfl
section
variable{X:Cx}{pins:List (ae×Obj)}{σ:St}{H:Hp}{s:ai}{l b:ae}{xs ys zs:List V}
def Inv.Um {its its':List ah}{n:Nat}{f:Array ah->Array ah}{t':Nat}(I:Inv X pins σ H s)(hH:H l=aa (.lst xs))
  (e:s.heap.get? l=aa {cls:=.type "list",data:=.seq its.toArray n})(hf:f its.toArray=its'.toArray)(hv:Vals ys its')(hz:ys.length<=aQ):
  Inv X pins σ (upd H l (.lst ys)) {s with heap:=s.heap.update l (Obj.mapSeq f),toks:=t'}:=by
 have q:=PySem.IsL.update e f;rw[hf]at q;refine I.write (x:=l) (e:=l) (by rw[hH];exact trivial) (.inl rfl) (λb' u hb hu=>(rS s.heap (Obj.mapSeq f) (eT hb)).trans hu) ⟨_,q⟩ ?_;exact⟨hz,its',_,hv,q⟩
def Inv.Xk {its:List ah}{t':Nat}(I:Inv X pins σ H s)(hv:Vals ys its)(hz:ys.length<=aQ):
  Inv X pins σ (upd H s.heap.objs.size (.lst ys)) {s with heap:=s.heap.push {cls:=.type "list",data:=.seq its.toArray},toks:=t'}:=
 I.laid (λ_ _ q=>ej _ q) (bZ _) ⟨hz,its,0,hv,jC _ rfl⟩
theorem Inv.fresh (I:Inv X pins σ H s):H s.heap.objs.size=none:=I.hok.fresh (bZ _)
def Inv.Uo (I:Inv X pins σ H s)(hH:H l=aa (.lst xs)):xs.length<=aQ/\∃(its:List ah)(n:Nat),Vals xs its/\xs.length=its.length/\s.heap.get? l=aa {cls:=.type "list",data:=.seq its.toArray n}:=by obtain⟨z,its,n,r,e⟩:=I.hok l _ hH;exact⟨z,its,n,r,r.length,e⟩
end
section
variable{X:Cx}
def MF:V->List V->Hp->VK->Prop:=λx vs H Q=>∃l xs y,x=.ref l/\vs=[y]/\H l=aa (.lst xs)/\xs.length<aQ/\Q .non (upd H l (.lst (xs++[y])))
def oG:Zt X "list.append" MF:=by intro pins s σ H x vs v us Q I rx rv h;obtain⟨l,xs,y,rfl,rfl,hH,hz,q⟩:=h;cases rx;obtain⟨u,rfl,ru⟩:=rv.one;obtain⟨z,its,n,r,hl,e⟩:=I.Uo hH;refine call_meets F.slot_list_append ⟨_,e,rfl⟩ F.entry_list_append (F.args_list_append_2 _ _) (PySem.list_append l its.toArray n u (by rw[dY];omega)) ⟨e,?_⟩;refine⟨.non,_,I.Um (its':=its++[u]) hH e (by simp) (r.append (.cons ru .nil)) ?_,rfl,q⟩;rw[bz,Bq];omega
def Xl:V->List V->Hp->VK->Prop:=λx vs H Q=>∃l xs y,x=.ref l/\vs=[]/\H l=aa (.lst xs)/\xs[xs.length-1]?=aa y/\Q y (upd H l (.lst xs.dropLast))
def QQ:Zt X "list.pop" Xl:=by
 intro pins s σ H x vs v us Q I rx rv h;obtain⟨l,xs,y,rfl,rfl,hH,hy,q⟩:=h;cases rx;have hus:=rv.zero;subst hus;obtain⟨z,its,n,r,hl,e⟩:=I.Uo hH;obtain⟨u,hu,ru⟩:=r.get hy;have hy':its.toArray[its.toArray.size-1]?=aa u:=by show its.toArray[its.length-1]?=aa u;rw[<-Array.getElem?_toList,<-hl];exact hu
 refine call_meets F.slot_list_pop ⟨_,e,rfl⟩ F.entry_list_pop (F.args_list_pop_1 _) (MeetsSeq.list_pop_last l its.toArray n u hy' (by rw[dY];omega)) ⟨e,?_⟩;refine⟨y,_,I.Um (its':=its.dropLast) hH e ?_ r.dropLast ?_,ru,q⟩
 ·show its.toArray.eraseIdxIfInBounds (its.toArray.size-1)=its.dropLast.toArray
  rw[dY,List.eraseIdxIfInBounds_toArray,El]
 ·rw[List.length_dropLast]
  omega
end
section
variable{prog:aO}{w:aD}{A:aW}{E:ah->ai->Prop}{s:ai}
set_option maxRecDepth 100000 in
end
end L2
namespace Zu
open PySem PySem.W PySem.Calls PyProof.Rows
def xF{P:jI}{h:au}:∀(ns:List Int)(vs:List ah),WellAll P h vs (ns.map WData.int)->yn vs ns:=by
 intro ns
 induction ns with
 |nil=>
  intro vs w;rw[yo]at w;cases w;exact .nil
 |cons n ns ih=>
  intro vs w;rw[nk]at w;cases w with
  |cons a b=>
   cases a;exact .cons _ _ (ih _ b)
def Hr{l:OpenLaw}{n:Nat}(hn:l.most=aa n){P:jI}{h:au}{args:List WData}{vals:List ah}
  (hpre:l.row.toRowW.claim.pre args=true)(Xm:WellAll P h vals args):
  ∃a vs ns,vals=[aS a]/\args=[WData.list (ns.map WData.int)]/\h.get? a=aa {cls:=.type "list",data:=.seq vs.toArray}/\yn vs ns/\ns.length<=n:=by
 have hsh:WShape.hasAll [] args [.list .int]=true:=(pre_splitW hpre).1;have hc:l.pre.holds [] {args:=args}=true:=(pre_splitW hpre).2;obtain⟨d,r,rfl,h1,h2⟩:=hasAllW_cons hsh;obtain rfl:=hasAllW_nil h2;obtain⟨xs,rfl,h3⟩:=hasW_list h1;obtain⟨ns,rfl⟩:=items_int h3;have hlen:ns.length<=n:=by
  unfold OpenLaw.pre at hc;have h4:(WTm.not (.lt (.lit (.int (n:Int))) (.len (.arg 0)))).holds [] {args:=[.list (ns.map .int)]}=true:=by have h4:=(holds_andW hc).1;rw[hn]at h4;exact h4
  have h5:=condW_of h4 (w_not (w_lt w_lit (w_len_list (w_arg rfl))));rw[gX]at h5;refine Ge λq=>?_;have q':(n:Int)<((ns.length:Nat):Int):=by omega
  first
   |(rw[decide_eq_true q']at h5;exact absurd h5 (by decide))
   |(simp at h5;omega)
 cases Xm with
 |cons w1 w2=>
  cases w2;cases w1 with
  |list ho hall=>exact⟨_,_,ns,rfl,rfl,ho,xF ns _ hall,hlen⟩
def Hs(l:OpenLaw)(args:List WData):l.row.toRowW.claim.post args (.bool true) args=true:=
 postW_of (r:=l.row.toRowW) (X:=(true==true))
  (show WShape.has [] (.bool true) .bool=true by first|rfl|decide|simp[WShape.has,WShape.arms,WShape.armsAll])
  (show(WTm.eq .res (.lit (.bool true))).value [] {args:=args,res:=aa (.bool true),after:=args}=aa (.bool (true==true))from w_eq_bool (w_res rfl) w_lit) rfl
def CF{l:OpenLaw}{n:Nat}{q:aO}{loose:List Str}{XP:(Str->Option ah)->au->Prop}{YP:aD->au->Prop}{d:DefRec}
  (hn:l.most=aa n)(Up:d.params.defaults=[])
  (call:∀(w:aD)(s₀ s₁:ai)(mg mb:Str->Option ah)(fa:ae)(o:Obj)(pm cd doc:ah)(a:ae)(vs:List ah)(ns:List Int),
   Ground q loose [] XP w s₀ mg mb s₁.heap->YP w s₁.heap->
   s₁.heap.get? fa=aa o->o.data=.func (docDef d.name d.params d.body d.scope pm cd doc)->s₁.heap.CodeRec cd d.name->mg d.name=aa (.ref fa)->
   s₁.heap.get? a=aa {cls:=.type "list",data:=.seq vs.toArray}->yn vs ns->ns.length<=n->s₁.gens=#[]->
   ng (aG l.prog w) rT (.call (.ref fa) ⟨[.ref a],[]⟩) (λr s'=>r=.ok (.ret (.bool true))/\OldK s₁.heap s'.heap/\s'.os=s₁.os/\ku s'.gens) s₁):
  WalkO q loose XP YP l.row.toRowW d [] (λf vs=>PySem.call f vs):=by
 intro w s₀ s₁ mg mb G Y fa o pm cd doc dV kV ho hd hcd hD hmg hg args vals as hpre hlay hrd Xm hlo;obtain rfl:dV=.none:=Dflts.none hD Up;obtain rfl:kV=.none:=Dflts.noKw hD;obtain⟨a,vs,ns,rfl,rfl,hobj,hints,hlen⟩:=Hr hn hpre Xm;refine enter_call (rO (call w s₀ s₁ mg mb fa o pm cd doc a vs ns G Y ho (fd_plain hd) hcd hmg hobj hints hlen hg) λr s' hq=>?_);obtain⟨rfl,h2,h3,h4⟩:=hq;exact⟨.inl ⟨.bool true,.bool true,[],rfl,λ_=>rfl,.bool true,Hs l _,λ_=>⟨List.Pairwise.nil,λ_ hm=>(nomatch hm)⟩⟩,h2,h3,h4⟩
section
variable{prog:aO}{w:aD}{A:aW}{E:ah->ai->Prop}{s:ai}{K:Frag}
def ledger(h:au)(L d:ae):List (ae×Obj):=(eR h.objs.size).filterMap λa=>if a=L\/a=d then none else(h.get? a).map λo=>(a,o)
end
end Zu
namespace L2
open PySem PySem.Spec PyProof.Rows
theorem Am:∀{vs:List ah}{ns:List Int},yn vs ns->Vals (ns.map V.int) vs
 |_,_,.nil=>.nil
 |_,_,.cons n t h=>.cons ⟨t,rfl⟩ (Am h)
def QR(H:Hp):Prop:=∀b,H b=none\/∃o xs,H b=aa (.zM o (.lst xs))
def Jc{P:aO}{w:aD}{K:aj}{mg mb:Str->Option ah}{CX:Hl}{k:Nat}{fa a:ae}{fd:aL}{x:Str}{sp:Sp}{s₁:ai}{vs:List ah}{ns:List Int}
  (KX:K.In s₁.heap)(hns:s₁.heap.Ns bU mg)(hb:s₁.heap.Ns Ft mb)(hbb:∀x:Str,x≠"__name__"->mb x=fy x)(hlim:s₁.heap.NoLimit)(hg:s₁.gens=#[])
  (ha:s₁.heap.get? a=aa {cls:=.type "list",data:=.seq vs.toArray})(hi:yn vs ns)(hl:ns.length<=aQ)(hr:bB k rT)
  (F:∀base:au,K.In base->base.Ns bU mg->fz P w K mg base CX k fa fd [x] sp)(hbind:∀(s:ai)(u:ah),rN s fd ⟨[u],[]⟩ [(x,u)])
  (O5:∀H:Hp,QR H->lB K H a (ns.map V.int)->sp [.ref a] H (λv _=>v=.bl true) λ_ _ _=>False)
  (Xn:∀H e s',CX [] H s₁ (λ_ _ _=>False) e s'->False):
  ng (aG P w) rT (.call (.ref fa) ⟨[.ref a],[]⟩) (λr s'=>r=.ok (.ret (.bool true))/\OldK s₁.heap s'.heap/\s'.os=s₁.os/\ku s'.gens) s₁:=by
 have rv:=Am hi;have Xo:=hi.length;have core:∀H:Hp,QR H->lB K H a (ns.map V.int)->sU P w H s₁.heap->(∀b,H b≠none->b=a)->(H a≠none->K.lookup a=none)->
   ng (aG P w) rT (.call (.ref fa) ⟨[.ref a],[]⟩) (λr s'=>r=.ok (.ret (.bool true))/\OldK s₁.heap s'.heap/\s'.os=s₁.os/\ku s'.gens) s₁:=by
  intro H hO hS hok hA hK;have Gf:∀{b:ae}{o:Obj},s₁.heap.get? b=aa o->H b=none->(AR s₁.heap H).get? b=aa o:=λe n=>IC e n;have Uh:∀{b:ae}{o:Obj}{es:Array A4}{ep:Nat},s₁.heap.get? b=aa o->o.data=.dict es ep->H b=none:=λ{b o es ep} e d=>by
   cases q:H b with
   |none=>rfl
   |some u=>
    have e':b=a:=hA b (by rw[q];simp);subst e';rw[ha]at e;cases e;have d':Data.seq vs.toArray _=Data.dict es ep:=d;cases d'
  have Wg:∀{b:ae}{m:Str->Option ah},s₁.heap.Ns b m->(AR s₁.heap H).Ns b m:=λ{b m}⟨o,es,ep,e,d,r⟩=>⟨o,es,ep,Gf e (Uh e d),d,r⟩
  have Zv:K.In (AR s₁.heap H):=λb o e=>Gf (KX b o e) (by
   cases q:H b with
   |none=>rfl
   |some u=>
    have e':b=a:=hA b (by rw[q];simp);subst e';rw[hK (by rw[q];simp)]at e;cases e)
  have hM:Mod K mg (AR s₁.heap H):=⟨Zv,Wg hns,⟨mb,Wg hb,hbb⟩,let⟨mc,h1,h2⟩:=hlim;⟨mc,Wg h1,h2⟩⟩
  have e0:Eh P w K mg (AR s₁.heap H) rT [] s₁ H:=⟨rfl,hM,λb o e=>LB e,pI (Hc _ _),trivial,λb hb=>absurd (show b∈([]:List ae)from hb) (by simp),hok,.of_eq hg⟩
  refine rO ((F _ Zv (Wg hns)).run rT [] s₁ H ⟨[.ref a],[]⟩ [.ref a] [.ref a] _ _ hr e0 (hbind s₁ (.ref a)) (.cons rfl .nil) (O5 H hO hS)) λr s' h=>?_;cases r with
  |error e=>exact(Xn H e s' h).elim
  |ok fl=>
   cases fl with
   |next=>exact dD h
   |brk=>exact dD h
   |cont=>exact dD h
   |ret u=>
    obtain⟨v,H',os,bare,un,Xp,r',q⟩:=h;have q':v=.bl true:=q;subst q';obtain rfl:u=AM true:=r';refine⟨rfl,OldK.of_keep λb o e=>?_,os,bare⟩;cases q:H b with
    |none=>exact un.keep b o e q (by intro z;exact absurd (show b∈([]:List ae)from z) (by simp)) (by simp)
    |some u=>
     rcases hO b with z|⟨ob,xs,z⟩
     ·rw[q]at z;cases z
     ·have z2:=un.vR b ob _ z
      obtain⟨e1,_⟩:=hok b _ z;obtain⟨e2,_⟩:=Xp b _ z2;rw[e]at e1;cases e1;exact e2
 cases hk:K.lookup a with
 |some o=>
  have e:=KX a o hk;rw[ha]at e;cases e;refine core (λ_=>none) (λ_=>.inl rfl) (.inr ⟨_,vs.toArray,_,hk,rfl,rfl,rfl,by rw[dY,Xo];exact hl,by simpa using rv⟩) (λb u z=>by have z':(none:Option HO)=aa u:=z;cases z') (λb z=>absurd rfl z) λz=>absurd rfl z
 |none=>
  refine core (λb=>if b=a then aa (.zM {cls:=.type "list",data:=.seq vs.toArray} (.lst (ns.map V.int)))else none) (λb=>?_) (.inl (.inr ⟨{cls:=.type "list",data:=.seq vs.toArray},if_pos rfl⟩)) (λb u z=>?_) (λb z=>?_) λ_=>hk
  ·by_cases hb:b=a
   ·exact .inr ⟨_,_,if_pos hb⟩
   ·exact .inl (if_neg hb)
  ·by_cases hb:b=a
   ·have z':=(if_pos hb).symm.trans z
    cases z';subst hb;exact⟨ha,by rw[gX];exact hl,vs,_,rv,ha⟩
   ·have z':=(if_neg hb).symm.trans z
    cases z'
  ·by_cases hb:b=a
   ·exact hb
   ·exact absurd (if_neg hb) z
end L2
namespace L2
open PySem PySem.Spec PyProof.Rows
abbrev KOf{K:aj}{h:au}(_:K.In h):aj:=K
def MG{l:Gg}{n k:Nat}{q:aO}{loose:List Str}{XP:(Str->Option ah)->au->Prop}{YP:aD->au->Prop}{d:DefRec}{K:jI->aj}{CX:aD->Hl}{sp:aD->Sp}{x:Str}
  (hn:l.most=aa n)(hn2:n<=aQ)(Up:d.params.defaults=[])(hr:bB k rT)
  (hY:∀(w:aD)(h:au),YP w h->(K w.params).In h)
  (F:∀(w:aD)(mg:Str->Option ah)(fa:ae)(h:au),(K w.params).In h->h.Ns bU mg->mg d.name=aa (.ref fa)->
   ∃fd:aL,(∀(s:ai)(u:ah),rN s fd ⟨[u],[]⟩ [(x,u)])/\
    ∀base:au,(K w.params).In base->base.Ns bU mg->fz l.prog w (K w.params) mg base (CX w) k fa fd [x] (sp w))
  (O5:∀(w:aD)(H:Hp)(a:ae)(ns:List Int),ns.length<=n->QR H->lB (K w.params) H a (ns.map V.int)->sp w [.ref a] H (λv _=>v=.bl true) λ_ _ _=>False)
  (Xn:∀(w:aD)(H:Hp)(s:ai)(e:ah)(s':ai),CX w [] H s (λ_ _ _=>False) e s'->False):
  MH q loose XP YP l.row.toRowW d [] (λf vs=>PySem.call f vs):=by
 refine Zu.CF hn Up λw s₀ s₁ mg mb fa o pm cd doc a vs ns G Y ho hd hcd hmg hobj hints hlen hg=>?_;have KX:=hY w _ Y;obtain⟨fd,hb,hF⟩:=F w mg fa _ KX G.T.g hmg;exact Jc KX G.T.g G.T.b G.T.builtins G.T.nolimit hg hobj hints (gW hlen hn2) hr hF hb (λH hO hS=>O5 w H a ns hlen hO hS) λH e s'=>Xn w H s₁ e s'
end L2
namespace L2
open PySem PySem.Spec PyProof.Rows
def inClass(s:aB)(j:Nat):aB:=match s with
 |.ClassDef _ _ _ body _ _ _ _ _ _ _=>body.getD j (.Pass ⟨0,0,0,0⟩)
 |_=>.Pass ⟨0,0,0,0⟩
def gZ(s:aB):uL:=match s with
 |.FunctionDef _ a _ _ _ _ _ _ _ _=>a
 |_=>{posonlyargs:=[],args:=[],vararg:=none,kwonlyargs:=[],kw_defaults:=[],kwarg:=none,defaults:=[]}
def dm(s:aB):List aB:=match s with
 |.FunctionDef _ _ b _ _ _ _ _ _ _=>b
 |_=>[]
def az(s:aB):cO:=match s with
 |.FunctionDef _ _ _ _ _ _ sc _ _ _=>sc
 |_=>{kind:=.function,names:=[],isGenerator:=false,isCoroutine:=false}
abbrev lL:Hl:=λ_ _ _ _ _ _=>False
structure Br(K:aj)(x qual:Str)(st:aB)(f:ae)(fd:aL):Prop where
 ex:∃(oc:ah)(od:Option ae)(kV doc pm:ah)(an:Option ae)(cdv ct:ah)(Bc:Array (Option ah)),
  fd=fE x qual (gZ st) (dm st) (az st) .none kV doc pm an cdv ct/\K.lookup f=aa ⟨oc,od,.func fd,Bc⟩/\uM K cdv qual=true
 kp:jF K (.ref f)=true
section
variable{P:aO}{w:aD}{K:aj}{mg:Str->Option ah}{base:au}
def Br.ok {x qual:Str}{st:aB}{f:ae}{fd:aL}{N ps:List Str}{k:Nat}{sp:Sp}(F:Br K x qual st f fd)(S:bh N ps (az st))(len:∀vs H Q E,sp vs H Q E->vs.length=ps.length)
  (hbody:∀(cdv:ah)(A:aW)(outer:List Env)(s:ai)(H:Hp)(vs:List V)(Q:VK)(E:XK),bB k (A.deeper (dF qual (az st) s.heap.objs.size f cdv))->sp vs H Q E->
   ∃t,qG (gn lL P w K mg base N qual (az st) f cdv A outer s H E).Cz (dm st) t/\t {nx:=λ_ H'=>Q .non H',rt:=Q} (start N vs) H):fz P w K mg base lL (k+1) f fd ps sp:=by
 obtain⟨oc,od,kV,doc,pm,an,cdv,ct,Bc,rfl,lk,hcd⟩:=F.ex;refine xh lk hcd S len λA outer s H vs Q E hr O5=>?_;obtain⟨t,h,q⟩:=hbody cdv A outer s H vs Q E hr O5;exact⟨t,h.Cz,q⟩
def Br.binds {x qual:Str}{st:aB}{f:ae}{fd:aL}{ps:List Str}(F:Br K x qual st f fd)
  (h:∀(kV doc pm:ah)(an:Option ae)(cdv ct:ah)(us:List ah),us.length=ps.length->jG (fE x qual (gZ st) (dm st) (az st) .none kV doc pm an cdv ct) ⟨us,[]⟩=bJ (ps.zip us)):Binds K fd ps []:=by
 obtain⟨oc,od,kV,doc,pm,an,cdv,ct,Bc,rfl,lk,hcd⟩:=F.ex;exact .all (h kV doc pm an cdv ct)
def Em{x qual:Str}{st:aB}{f:ae}{oc:ah}{od an:Option ae}{Bc:Array (Option ah)}{kV doc pm cdv ct:ah}(l:K.lookup f=aa ⟨oc,od,.func (fE x qual (gZ st) (dm st) (az st) .none kV doc pm an cdv ct),Bc⟩)
  (c:uM K cdv qual=true)(k:jF K (.ref f)=true):Br K x qual st f (fE x qual (gZ st) (dm st) (az st) .none kV doc pm an cdv ct):=⟨⟨oc,od,kV,doc,pm,an,cdv,ct,Bc,rfl,l,c⟩,k⟩
end
def Ht{n:Nat}(h:n<=1000):n<aQ:=uS h (by decide)
section
variable{X:Cx}
def pv(i:Nat){x:Str}{pos:Pos}(hN:X.N[i]?=aa x:=by rfl)(hv:D5 X.env.scope x:=by first|exact cD rfl|exact b9 (cD rfl)|exact b9 (b9 rfl))(hd:(x==("__debug__":Str))=false:=by decide)
  (hcd:(x==("__classdict__":Str))=false:=by decide):PE X (.Name x pos) (TX i):=nU hN hv hd hcd
end
def bS(H H':Hp):Prop:=∀b o,H b=aa o->H' b=aa o
def bS.refl (H:Hp):bS H H:=λ_ _ h=>h
def bS.trans {H H1 H2:Hp}(a:bS H H1)(b:bS H1 H2):bS H H2:=λc o h=>b c o (a c o h)
def bS.free {H H':Hp}(e:bS H H'){l:ae}(h:H' l=Option.none):H l=Option.none:=by
 cases q:H l with
 |none=>rfl
 |some o=>
  rw[e l o q]at h;cases h
def bS.seq {K:aj}{H H':Hp}{a:ae}{xs:List V}(e:bS H H')(h:lB K H a xs):lB K H' a xs:=by
 rcases h with(h|⟨o,h⟩)|h
 ·exact .inl (.inl (e _ _ h))
 ·exact .inl (.inr ⟨o,e _ _ h⟩)
 ·exact .inr h
end L2
set_option maxHeartbeats 4000000
namespace L2
open PySem PySem.Spec PyProof.Rows
section
variable{κ:Type}[DecidableEq κ]
def Uq(kvs:List (κ×V))(k:κ):Option V:=(kvs.find? λkv=>decide (kv.1=k)).map (·.2)
def putK(kvs:List (κ×V))(k:κ)(v:V):List (κ×V):=
 if(kvs.any λkv=>decide (kv.1=k))=true then kvs.map (λkv=>if kv.1=k then(kv.1,v)else kv)else kvs++[(k,v)]
def Zw(kvs:List (κ×V))(k:κ):List (κ×V):=kvs.filter λkv=>decide (kv.1≠k)
end
abbrev KT(H:Hp):List (List Key×V)->List (List Key×ae×ah)->Prop:=Paired λp q=>p.1=q.1/\H q.2.1=aa (.tup (p.1.map kV))/\RelV p.2 q.2.2
def aaJ(H:Hp)(a:ae)(y:V)(r:Option V):Prop:=
 (∃kvs k,Rd H a (.dK kvs)/\y=kV k/\r=Uq kvs k)\/∃kvs k b,Rd H a (.dT kvs)/\y=.ref b/\H b=aa (.tup (k.map kV))/\r=Uq kvs k
def aaK(H:Hp)(a:ae)(y v:V)(H':Hp):Prop:=
 (∃kvs k,H a=aa (.dK kvs)/\y=kV k/\kvs.length<aQ/\H'=upd H a (.dK (putK kvs k v)))\/
 ∃kvs k b,H a=aa (.dT kvs)/\y=.ref b/\H b=aa (.tup (k.map kV))/\kvs.length<aQ/\H'=upd H a (.dT (putK kvs k v))
end L2
namespace L2
open PySem PySem.Spec PyProof.Rows
variable{X:Cx}
end L2
namespace DL
open PySem PySem.Spec PyProof.Rows L2
abbrev St:=L2.St
inductive D where
 |non|bl (b:Bool)|int (i:Int)|str (x:Str)|lst (xs:List D)|tup (xs:List D)|exc (n:Str)|fn (n:Str)
 deriving Inhabited
inductive R (α:Type) where
 |ok (a:α)|err (c:Str)|bad
def R.bind {α β:Type}(r:R α)(f:α->R β):R β:=match r with
 |.ok a=>f a
 |.err c=>.err c
 |.bad=>.bad
def R.of {α:Type}:Option α->R α
 |some a=>.ok a
 |none=>.bad
theorem R.cg {α β:Type}(a:α)(f:α->R β):(R.ok a).bind f=f a:=rfl
theorem R.mh {α β:Type}(c:Str)(f:α->R β):(R.err c:R α).bind f=.err c:=rfl
theorem R.jJ {α:Type}(a:α):R.of (aa a)=.ok a:=rfl
def Good{α:Type}(E:Str->Hp->Prop)(H₀:Hp)(r:R α)(post:α->Prop):Prop:=match r with
 |.ok a=>post a
 |.err c=>∀H',bS H₀ H'->E c H'
 |.bad=>False
theorem Good.bind {α β:Type}{E:Str->Hp->Prop}{H₀:Hp}{r:R α}{k:α->R β}{post:β->Prop}(h:Good E H₀ (r.bind k) post):Good E H₀ r (λa=>Good E H₀ (k a) post):=by
 cases r with
 |ok a=>exact h
 |err c=>exact h
 |bad=>exact h
def Good.mono {α:Type}{E:Str->Hp->Prop}{H₀:Hp}{r:R α}{p q:α->Prop}(h:Good E H₀ r p)(w:∀a,r=.ok a->p a->q a):Good E H₀ r q:=by
 cases r with
 |ok a=>exact w a rfl h
 |err c=>exact h
 |bad=>exact h
def Good.MI {α β:Type}{E:Str->Hp->Prop}{H₀:Hp}{r:R α}{k:α->R β}{p:α->Prop}{q:β->Prop}(h:Good E H₀ r p)(w:∀a,r=.ok a->p a->Good E H₀ (k a) q):Good E H₀ (r.bind k) q:=by
 cases r with
 |ok a=>exact w a rfl h
 |err c=>exact h
 |bad=>exact h
theorem Good.of {α:Type}{E:Str->Hp->Prop}{H₀:Hp}{o:Option α}{p:α->Prop}(h:Good E H₀ (R.of o) p):∃a,o=aa a/\p a:=by
 cases o with
 |none=>exact dD h
 |some a=>exact⟨a,rfl,h⟩
def KL(K:aj)(a:ae)(xs:List V):Prop:=∃(o:Obj)(its:Array ah)(n:Nat),K.lookup a=aa o/\o.cls=.type "list"/\o.dict=none/\o.data=.seq its n/\its.size<=aQ/\Vals xs its.toList
def KT(K:aj)(a:ae)(xs:List V):Prop:=∃(o:Obj)(its:Array ah)(n:Nat),K.lookup a=aa o/\o.cls=.type "tuple"/\o.data=.seq its n/\its.size<=aQ/\Vals xs its.toList
def Bs(K:aj)(P:ae->Prop)(H:Hp)(a:ae)(vs:List V):Prop:=(P a/\Rd H a (.lst vs))\/KL K a vs
def Hu(K:aj)(P:ae->Prop)(H:Hp)(a:ae)(vs:List V):Prop:=(P a/\Rd H a (.tup vs))\/KT K a vs
def Bs.sq {K:aj}{P:ae->Prop}{H:Hp}{a:ae}{vs:List V}(h:Bs K P H a vs):lB K H a vs:=h.elim (λz=>.inl z.2) .inr
def Hu.sq {K:aj}{P:ae->Prop}{H:Hp}{a:ae}{vs:List V}(h:Hu K P H a vs):DR K H a vs:=h.elim (λz=>.inl z.2) .inr
def Bs.any {K:aj}{H:Hp}{a:ae}{vs:List V}(h:lB K H a vs):Bs K (λ_=>True) H a vs:=h.elim (λz=>.inl ⟨trivial,z⟩) .inr
def Jd(a C:ae):au->Prop:=λh=>∃vs,h.get? a=aa {cls:=.ref C,data:=.fields vs}
noncomputable def Is(K:aj)(P:ae->Prop)(H:Hp):D->V->Prop
 |.non,v=>v=.non
 |.bl b,v=>v=.bl b
 |.int i,v=>v=.int i
 |.str x,v=>v=.str x
 |.lst ds,v=>∃a vs,v=.ref a/\Bs K P H a vs/\IsL ds vs
 |.tup ds,v=>∃a vs,v=.ref a/\Hu K P H a vs/\IsL ds vs
 |.exc n,v=>∃a C,v=.ref a/\P a/\cV K bU n=aa (aa (.ref C))/\H a=aa (.ext (Jd a C))
 |.fn n,v=>∃a,v=.ref a/\cV K bU n=aa (aa (.ref a))
where
 IsL:List D->List V->Prop
 |[],vs=>vs=[]
 |d::ds,vs=>∃v r,vs=v::r/\Is K P H d v/\IsL ds r
abbrev IsL(K:aj)(P:ae->Prop)(H:Hp):List D->List V->Prop:=Is.IsL K P H
section
variable{K:aj}{P P':ae->Prop}{H H':Hp}
structure Ext(P P':ae->Prop)(H H':Hp):Prop where
 p:∀a o,P a->H a=aa o->P' a
 h:∀a o,P a->H a=aa o->H' a=aa o
def Ext.rd (e:Ext P P' H H'){a:ae}{u:HO}(p:P a)(r:Rd H a u):P' a/\Rd H' a u:=by
 rcases r with r|⟨o,r⟩
 ·exact⟨e.p a _ p r,.inl (e.h a _ p r)⟩
 ·exact⟨e.p a _ p r,.inr ⟨o,e.h a _ p r⟩⟩
def Bs.ext (e:Ext P P' H H'){a:ae}{vs:List V}(h:Bs K P H a vs):Bs K P' H' a vs:=h.elim (λz=>.inl (e.rd z.1 z.2)) .inr
def Hu.ext (e:Ext P P' H H'){a:ae}{vs:List V}(h:Hu K P H a vs):Hu K P' H' a vs:=h.elim (λz=>.inl (e.rd z.1 z.2)) .inr
mutual
theorem Is.ext (e:Ext P P' H H'):∀(d:D)(v:V),Is K P H d v->Is K P' H' d v
 |.non,_,h=>h
 |.bl _,_,h=>h
 |.int _,_,h=>h
 |.str _,_,h=>h
 |.lst ds,_,⟨a,vs,e1,l,q⟩=>⟨a,vs,e1,l.ext e,IsL.ext e ds vs q⟩
 |.tup ds,_,⟨a,vs,e1,l,q⟩=>⟨a,vs,e1,l.ext e,IsL.ext e ds vs q⟩
 |.exc n,_,⟨a,C,e1,p,c,q⟩=>⟨a,C,e1,e.p a _ p q,c,e.h a _ p q⟩
 |.fn _,_,h=>h
theorem IsL.ext (e:Ext P P' H H'):∀(ds:List D)(vs:List V),IsL K P H ds vs->IsL K P' H' ds vs
 |[],_,h=>h
 |d::ds,_,⟨v,r,e1,p,q⟩=>⟨v,r,e1,Is.ext e d v p,IsL.ext e ds r q⟩
end
def Ext.same (s:bS H H'):Ext P P H H':=⟨λ_ _ p _=>p,λa o _ h=>s a o h⟩
theorem Is.same (s:bS H H'){d:D}{v:V}(h:Is K P H d v):Is K P H' d v:=Is.ext (.same s) d v h
theorem IsL.same (s:bS H H'){d:List D}{v:List V}(h:IsL K P H d v):IsL K P H' d v:=IsL.ext (.same s) d v h
def Is.weak {d:D}{v:V}(h:Is K P H d v):Is K (λ_=>True) H d v:=Is.ext ⟨λ_ _ _ _=>trivial,λ_ _ _ q=>q⟩ d v h
def IsL.weak {d:List D}{v:List V}(h:IsL K P H d v):IsL K (λ_=>True) H d v:=IsL.ext ⟨λ_ _ _ _=>trivial,λ_ _ _ q=>q⟩ d v h
def toV:D->Option V
 |.non=>aa .non
 |.bl b=>aa (.bl b)
 |.int i=>aa (.int i)
 |.str x=>aa (.str x)
 |_=>none
def Is.sc {d:D}{z:V}(h:toV d=aa z):Is K P H d z:=by
 cases d with
 |non=>cases h;rfl
 |bl b=>cases h;rfl
 |int b=>cases h;rfl
 |str b=>cases h;rfl
 |lst b=>cases h
 |exc _=>cases h
 |fn _=>cases h
 |tup b=>cases h
def Is.Ur {d:D}{z v:V}(h:toV d=aa z)(i:Is K P H d v):v=z:=by
 cases d with
 |non=>cases h;exact i
 |bl b=>cases h;exact i
 |int b=>cases h;exact i
 |str b=>cases h;exact i
 |lst b=>cases h
 |exc _=>cases h
 |fn _=>cases h
 |tup b=>cases h
theorem IsL.length:∀{ds:List D}{vs:List V},IsL K P H ds vs->vs.length=ds.length
 |[],_,h=>by subst h;rfl
 |d::ds,_,⟨v,r,e,_,q⟩=>by subst e;simp[IsL.length q]
theorem IsL.get:∀{ds:List D}{vs:List V}{i:Nat}{d:D},IsL K P H ds vs->ds[i]?=aa d->∃v,vs[i]?=aa v/\Is K P H d v
 |[],_,_,_,_,e=>by simp at e
 |d::ds,_,0,_,⟨v,r,e,p,q⟩,e2=>by subst e;simp at e2;subst e2;exact⟨v,rfl,p⟩
 |d::ds,_,i+1,_,⟨v,r,e,p,q⟩,e2=>by subst e;obtain⟨v',h1,h2⟩:=IsL.get (i:=i) q (by simpa using e2);exact⟨v',by simpa using h1,h2⟩
theorem IsL.app:∀{ds es:List D}{vs ws:List V},IsL K P H ds vs->IsL K P H es ws->IsL K P H (ds++es) (vs++ws)
 |[],_,_,_,h,q=>by have h':_=[]:=h;subst h';exact q
 |d::ds,_,_,_,⟨v,r,e,p,q⟩,q2=>by subst e;exact⟨v,_,rfl,p,IsL.app q q2⟩
def IsL.one {d:D}{v:V}(h:Is K P H d v):IsL K P H [d] [v]:=⟨v,[],rfl,h,rfl⟩
def IsL.cons {d:D}{v:V}{ds:List D}{vs:List V}(h:Is K P H d v)(q:IsL K P H ds vs):IsL K P H (d::ds) (v::vs):=⟨v,vs,rfl,h,q⟩
theorem IsL.drop:∀{ds:List D}{vs:List V}(n:Nat),IsL K P H ds vs->IsL K P H (ds.drop n) (vs.drop n)
 |_,_,0,h=>h
 |[],_,n+1,h=>by have h':_=[]:=h;subst h';exact rfl
 |d::ds,_,n+1,⟨v,r,e,p,q⟩=>by subst e;exact IsL.drop n q
theorem IsL.take:∀{ds:List D}{vs:List V}(n:Nat),IsL K P H ds vs->IsL K P H (ds.take n) (vs.take n)
 |_,_,0,_=>rfl
 |[],_,n+1,h=>by have h':_=[]:=h;subst h';exact rfl
 |d::ds,_,n+1,⟨v,r,e,p,q⟩=>by subst e;exact⟨v,_,rfl,p,IsL.take n q⟩
end
abbrev MJ:=Int×Int×List Int
inductive Ct where
 |ls (nss:List (List Int))|tp (nss:List (List Int))|dk (ks:List Int)|tq (n:Int) (ns:List Int)|tr (ts:List MJ)|tv (ds:List D) (ns:List Int)|tf (h:Int) (nss:List (List Int))|lm (o:Option ae) (n:Int) (ns:List Int) (ds:List D)
instance:Coe (List (List Int)) Ct:=⟨Ct.ls⟩
inductive Sl where
 |no|val (d:D)|own (xs:List D)|raw (v:V)|deep (c:Ct)
abbrev DE:=List Sl
structure Gh where
 P₀:ae->Prop
 H₀:Hp
def Gh.P (g:Gh)(os:List ae)(a:ae):Prop:=(g.P₀ a\/g.H₀ a=none)/\a∉os
structure CG(hd:List V->HO)(H:Hp)(os:List ae)(a:ae)(as:List ae)(nss:List (List Int)):Prop where
 ma:a∈os
 ha:H a=aa (hd (as.map V.ref))
 len:as.length=nss.length
 nd:(a::as).Nodup
 it:∀(k:Nat)(b:ae)(ns:List Int),as[k]?=aa b->nss[k]?=aa ns->b∈os/\H b=aa (.lst (ns.map V.int))
def CG.mem {hd:List V->HO}{H:Hp}{os:List ae}{a:ae}{as:List ae}{nss:List (List Int)}(d:CG hd H os a as nss):∀x∈a::as,x∈os/\∃o,H x=aa o:=λx hx=>by
 rcases bR.mp hx with rfl|hx
 ·exact⟨d.ma,_,d.ha⟩
 ·obtain⟨k,hk,rfl⟩:=List.getElem_of_mem hx
  have Je:k<nss.length:=by rw[<-d.len];exact hk
  have q:=d.it k _ _ (cQ hk) (cQ Je);exact⟨q.1,_,q.2⟩
def CG.to {hd:List V->HO}{H H':Hp}{os dS:List ae}{a:ae}{as:List ae}{nss:List (List Int)}(d:CG hd H os a as nss)(h:∀x∈a::as,x∈dS/\H' x=H x):CG hd H' dS a as nss:=
 ⟨(h a (by simp)).1,by rw[(h a (by simp)).2];exact d.ha,d.len,d.nd,λk b ns e1 e2=>by have q:=d.it k b ns e1 e2;have hb:=h b (cP _ (yg e1));exact⟨hb.1,by rw[hb.2];exact q.2⟩⟩
def Us(H:Hp)(as:List ae)(t:MJ)(v:V):Prop:=∃b c,v=.ref b/\b∈as/\c∈as/\H b=aa (.tup [.int t.1,.int t.2.1,.ref c])/\H c=aa (.lst (t.2.2.map V.int))
structure QS(H:Hp)(os:List ae)(a:ae)(as:List ae)(ts:List MJ):Prop where
 ma:a∈os
 na:a∉as
 mem:∀x∈as,x∈os/\∃o,H x=aa o
 at_:∃vs,H a=aa (.lst vs)/\vs.length=ts.length/\∀(k:Nat)(t:MJ)(v:V),ts[k]?=aa t->vs[k]?=aa v->Us H as t v
def Us.to {H H':Hp}{as mV:List ae}{t:MJ}{v:V}(d:Us H as t v)(h:∀x∈as,x∈mV/\H' x=H x):Us H' mV t v:=by obtain⟨b,c,e,h1,h2,h3,h4⟩:=d;exact⟨b,c,e,(h b h1).1,(h c h2).1,by rw[(h b h1).2];exact h3,by rw[(h c h2).2];exact h4⟩
theorem QS.to {H H':Hp}{os dS:List ae}{a:ae}{as:List ae}{ts:List MJ}(d:QS H os a as ts)(h:∀x∈a::as,x∈dS/\H' x=H x):QS H' dS a as ts:=by
 obtain⟨vs,h1,h2,h3⟩:=d.at_
 refine⟨(h a (by simp)).1,d.na,λx hx=>?_,vs,by rw[(h a (by simp)).2];exact h1,h2,λk t v e1 e2=>(h3 k t v e1 e2).to λx hx=>⟨hx,(h x (cP _ hx)).2⟩⟩;obtain⟨q1,o,q2⟩:=d.mem x hx;have q:=h x (cP _ hx);exact⟨q.1,o,by rw[q.2];exact q2⟩
def kvT(ks:List Int):List (Key×V):=ks.map λk=>(m7 k,V.bl true)
noncomputable def Wh(K:aj)(H:Hp)(a:ae)(as:List ae)(n:Int)(ns:List Int)(ds:List D):Prop:=∃C dx h b ws,cV K bU "Loom"=aa (aa (.ref C))/\h∈as/\b∈as/\h≠b/\a∉as/\(∀x∈as,∃o,H x=aa o)/\H a=aa (.ins C dx [("n",.int n),("held",.ref h),("backs",.ref b)])/\H h=aa (.lst (ns.map V.int))/\H b=aa (.lst ws)/\IsL K (λc=>c∈as/\c≠h/\c≠b) H ds ws
def Wh.to {K:aj}{H H':Hp}{a:ae}{as:List ae}{n:Int}{ns:List Int}{ds:List D}(d:Wh K H a as n ns ds)(h:∀x∈a::as,H' x=H x):Wh K H' a as n ns ds:=by obtain⟨C,dx,p,b,ws,h0,h1,h2,h3,h4,h5,h6,h7,h8,h9⟩:=d;have q:∀x∈as,H' x=H x:=λx hx=>h x (cP _ hx);refine⟨C,dx,p,b,ws,h0,h1,h2,h3,h4,λx hx=>?_,by rw[h a (by simp)];exact h6,by rw[q p h1];exact h7,by rw[q b h2];exact h8,IsL.ext ⟨λc o p _=>p,λc o p z=>by rw[q c p.1];exact z⟩ _ _ h9⟩;rw[q x hx];exact h5 x hx
abbrev Dp(K:aj)(H:Hp)(os:List ae)(a:ae)(as:List ae)(c:Ct):Prop:=match c with
 |.ls nss=>CG HO.lst H os a as nss
 |.tp nss=>CG HO.tup H os a as nss
 |.dk ks=>a∈os/\as=[]/\H a=aa (.dK (kvT ks))
 |.tq n ns=>∃b,as=[b]/\a∈os/\b∈os/\a≠b/\H a=aa (.tup [.int n,.ref b])/\H b=aa (.lst (ns.map V.int))
 |.tr ts=>QS H os a as ts
 |.tf h nss=>∃m bs,as=m::bs/\a∈os/\a∉as/\H a=aa (.tup [.int h,.ref m])/\CG HO.lst H os m bs nss
 |.lm o n ns ds=>(∀y,o=aa y->y=a)/\(∀x∈a::as,x∈os)/\Wh K H a as n ns ds
 |.tv ds ns=>∃b m ws,b∈as/\m∈as/\m≠b/\a∉as/\(∀x∈a::as,x∈os/\∃o,H x=aa o)/\H a=aa (.tup [.ref m,.ref b])/\H b=aa (.lst (ns.map V.int))/\H m=aa (.lst ws)/\IsL K (λc=>c∈as/\c≠b/\c≠m) H ds ws
theorem Dp.mem {K:aj}{H:Hp}{os:List ae}{a:ae}{as:List ae}{c:Ct}(d:Dp K H os a as c):∀x∈a::as,x∈os/\∃o,H x=aa o:=by
 cases c with
 |ls nss=>exact CG.mem d
 |tp nss=>exact CG.mem d
 |dk ks=>
  obtain⟨h1,rfl,h2⟩:=d;intro x hx;rcases bR.mp hx with rfl|hx
  ·exact⟨h1,_,h2⟩
  ·cases hx
 |tq n ns=>
  obtain⟨b,rfl,h1,h2,h3,h4,h5⟩:=d;intro x hx;rcases bR.mp hx with rfl|hx
  ·exact⟨h1,_,h4⟩
  ·rcases bR.mp hx with rfl|hx
   ·exact⟨h2,_,h5⟩
   ·cases hx
 |tr ts=>
  have d':QS H os a as ts:=d;intro x hx;rcases bR.mp hx with rfl|hx
  ·obtain⟨vs,h1,_⟩:=d'.at_
   exact⟨d'.ma,_,h1⟩
  ·exact d'.mem x hx
 |tv ds ns=>
  obtain⟨b,m,ws,_,_,_,_,h,_⟩:=d;exact h
 |lm a' n ns ds=>
  obtain⟨_,h1,C,dx,p,b,ws,_,_,_,_,_,h5,h6,_⟩:=d;intro x hx;refine⟨h1 x hx,?_⟩;rcases bR.mp hx with rfl|hx
  ·exact⟨_,h6⟩
  ·exact h5 x hx
 |tf h nss=>
  obtain⟨m,bs,rfl,h1,_,h3,h4⟩:=d;intro x hx;rcases bR.mp hx with rfl|hx
  ·exact⟨h1,_,h3⟩
  ·exact CG.mem h4 x hx
theorem Dp.to {K:aj}{H H':Hp}{os dS:List ae}{a:ae}{as:List ae}{c:Ct}(d:Dp K H os a as c)(h:∀x∈a::as,x∈dS/\H' x=H x):Dp K H' dS a as c:=by
 cases c with
 |ls nss=>exact CG.to d h
 |tp nss=>exact CG.to d h
 |dk ks=>
  obtain⟨h1,rfl,h2⟩:=d;exact⟨(h a (by simp)).1,rfl,by rw[(h a (by simp)).2];exact h2⟩
 |tq n ns=>
  obtain⟨b,rfl,h1,h2,h3,h4,h5⟩:=d;exact⟨b,rfl,(h a (by simp)).1,(h b (by simp)).1,h3,by rw[(h a (by simp)).2];exact h4,by rw[(h b (by simp)).2];exact h5⟩
 |tr ts=>exact QS.to d h
 |lm a' n ns ds=>exact⟨d.1,λx hx=>(h x hx).1,d.2.2.to λx hx=>(h x hx).2⟩
 |tf k nss=>
  obtain⟨m,bs,rfl,h1,h2,h3,h4⟩:=d;exact⟨m,bs,rfl,(h a (by simp)).1,h2,by rw[(h a (by simp)).2];exact h3,h4.to λx hx=>h x (cP _ hx)⟩
 |tv ds ns=>
  obtain⟨b,m,ws,h1,h2,h3,h4,h5,h6,h7,h8,h9⟩:=d;have hb:=h b (cP _ h1);have hm:=h m (cP _ h2);refine⟨b,m,ws,h1,h2,h3,h4,λx hx=>?_,by rw[(h a (by simp)).2];exact h6,by rw[hb.2];exact h7,by rw[hm.2];exact h8,IsL.ext ⟨λc o p _=>p,λc o p q=>by rw[(h c (cP _ p.1)).2];exact q⟩ _ _ h9⟩;obtain⟨_,o,q⟩:=h5 x hx;exact⟨(h x hx).1,o,by rw[(h x hx).2];exact q⟩
theorem Dp.ha {K:aj}{H:Hp}{os:List ae}{a:ae}{as:List ae}{nss:List (List Int)}(d:Dp K H os a as (.ls nss)):H a=aa (.lst (as.map V.ref)):=CG.ha d
theorem Dp.len {K:aj}{H:Hp}{os:List ae}{a:ae}{as:List ae}{nss:List (List Int)}(d:Dp K H os a as (.ls nss)):as.length=nss.length:=CG.len d
theorem Dp.it {K:aj}{H:Hp}{os:List ae}{a:ae}{as:List ae}{nss:List (List Int)}(d:Dp K H os a as (.ls nss)):∀(k:Nat)(b:ae)(ns:List Int),as[k]?=aa b->nss[k]?=aa ns->b∈os/\H b=aa (.lst (ns.map V.int)):=CG.it d
structure Ti(K:aj)(A:Nat->List ae)(env:DE)(σ:St)(H:Hp)(os:List ae):Prop where
 dp:∀(i:Nat)(nss:Ct),env[i]?=aa (.deep nss)->∃a as,A i=a::as/\σ[i]?=aa (aa (.ref a))/\Dp K H os a as nss
 ow:∀(i:Nat)(nss:Ct)(j:Nat)(xs:List D)(b:ae),env[i]?=aa (.deep nss)->env[j]?=aa (.own xs)->σ[j]?=aa (aa (.ref b))->b∉A i
 dj:∀(i j:Nat)(nss An:Ct),i≠j->env[i]?=aa (.deep nss)->env[j]?=aa (.deep An)->∀x∈A i,x∉A j
theorem Ti.mem {K:aj}{A:Nat->List ae}{env:DE}{σ:St}{H:Hp}{os:List ae}(d:Ti K A env σ H os){i:Nat}{nss:Ct}(e:env[i]?=aa (.deep nss)):∀x∈A i,x∈os/\∃o,H x=aa o:=λx hx=>by obtain⟨a,as,h1,_,h3⟩:=d.dp i nss e;rw[h1]at hx;exact h3.mem x hx
theorem Ti.to {K:aj}{A:Nat->List ae}{env zT:DE}{σ σ':St}{H H':Hp}{os dS:List ae}(d:Ti K A env σ H os)
  (hd:∀(j:Nat)(nss:Ct),zT[j]?=aa (.deep nss)->env[j]?=aa (.deep nss)/\σ'[j]?=σ[j]?)
  (ho:∀(j:Nat)(xs:List D)(b:ae),zT[j]?=aa (.own xs)->σ'[j]?=aa (aa (.ref b))->(∃ys,env[j]?=aa (.own ys)/\σ[j]?=aa (aa (.ref b)))\/b∉os)
  (hH:∀(i:Nat)(nss:Ct),env[i]?=aa (.deep nss)->∀x∈A i,x∈dS/\H' x=H x):Ti K A zT σ' H' dS where
 dp i nss e:=by obtain⟨e',q⟩:=hd i nss e;obtain⟨a,as,h1,h2,h3⟩:=d.dp i nss e';exact⟨a,as,h1,by rw[q];exact h2,h3.to λx hx=>hH i nss e' x (by rw[h1];exact hx)⟩
 ow i nss j xs b e1 e2 e3:=by
  obtain⟨Wi,_⟩:=hd i nss e1;rcases ho j xs b e2 e3 with⟨ys,q1,q2⟩|q
  ·exact d.ow i nss j ys b Wi q1 q2
  ·exact λz=>q (d.mem Wi b z).1
 dj i j nss An hij e1 e2:=d.dj i j nss An hij (hd i nss e1).1 (hd j An e2).1
def En(K:aj)(env:DE)(σ:St)(H:Hp)(os:List ae):Prop:=∃A,Ti K A env σ H os
def En.none {K:aj}{env:DE}{σ:St}{H:Hp}{os:List ae}(h:∀(i:Nat)(nss:Ct),env[i]?≠aa (.deep nss)):En K env σ H os:=
 ⟨λ_=>[],λi nss e=>(h i nss e).elim,λi nss _ _ _ e=>(h i nss e).elim,λi _ nss _ _ e=>(h i nss e).elim⟩
structure Rel(K:aj)(g:Gh)(env:DE)(σ:St)(H:Hp)(os:List ae):Prop where
 len:σ.length=env.length
 ext:bS g.H₀ H
 val:∀(i:Nat)(d:D),env[i]?=aa (.val d)->∃v,σ[i]?=aa (aa v)/\Is K (g.P os) H d v
 own:∀(i:Nat)(xs:List D),env[i]?=aa (.own xs)->∃a vs,σ[i]?=aa (aa (.ref a))/\a∈os/\H a=aa (.lst vs)/\IsL K (g.P os) H xs vs
 inj:∀(i j:Nat)(xs ys:List D)(a:ae),env[i]?=aa (.own xs)->env[j]?=aa (.own ys)->σ[i]?=aa (aa (.ref a))->σ[j]?=aa (aa (.ref a))->i=j
 new:∀a∈os,g.H₀ a=none/\∃o,H a=aa o
 raw:∀(i:Nat)(v:V),env[i]?=aa (.raw v)->σ[i]?=aa (aa v)
 ML:En K env σ H os
section
variable{K:aj}{g:Gh}{env:DE}{σ:St}{H H':Hp}{os:List ae}
theorem Rel.same (r:Rel K g env σ H os)(s:bS H H'):Rel K g env σ H' os:=
 ⟨r.len,r.ext.trans s,λi d e=>let⟨v,h1,h2⟩:=r.val i d e;⟨v,h1,h2.same s⟩,
  λi xs e=>let⟨a,vs,h1,h2,h3,h4⟩:=r.own i xs e;⟨a,vs,h1,h2,s a _ h3,h4.same s⟩,r.inj,λa ha=>⟨(r.new a ha).1,let⟨o,h⟩:=(r.new a ha).2;⟨o,s a o h⟩⟩,r.raw,by
  obtain⟨A,d⟩:=r.ML;exact⟨A,d.to (λj nss e=>⟨e,rfl⟩) (λj xs b e q=>.inl ⟨xs,e,q⟩) λi nss e x hx=>by obtain⟨q1,o,q2⟩:=d.mem e x hx;exact⟨q1,by rw[s x o q2,q2]⟩⟩⟩
def Rel.fresh (r:Rel K g env σ H os){a:ae}(h:H a=none):g.P os a:=by refine⟨.inr (r.ext.free h),λhm=>?_⟩;obtain⟨o,e⟩:=(r.new a hm).2;rw[h]at e;cases e
def d8{p:ae}(h:H p=none)(o:HO):bS H (upd H p o):=λb u q=>by rw[aM (bE q h)];exact q
theorem Rel.set (r:Rel K g env σ H os)(i:Nat){d:D}{v:V}(h:Is K (g.P os) H d v):Rel K g (env.set i (.val d)) (σ.set i (aa v)) H os:=by
 refine⟨by simp[r.len],r.ext,λj d' e=>?_,λj xs e=>?_,λj k xs ys a e1 e2 e3 e4=>?_,r.new,λj w e=>?_,?_⟩
 ·by_cases hj:i=j
  ·subst hj
   have hi:i<env.length:=by have:=(dX.mp e).1;simpa using this
   rw[jA hi]at e;cases e;exact⟨v,by rw[jA (by rw[r.len];exact hi)],h⟩
  ·rw[aT hj]at e
   obtain⟨v',h1,h2⟩:=r.val j d' e;exact⟨v',by rw[aT hj];exact h1,h2⟩
 ·by_cases hj:i=j
  ·subst hj
   have hi:i<env.length:=by have:=(dX.mp e).1;simpa using this
   rw[jA hi]at e;cases e
  ·rw[aT hj]at e
   obtain⟨a,vs,h1,h2⟩:=r.own j xs e;exact⟨a,vs,by rw[aT hj];exact h1,h2⟩
 ·have f:∀(j:Nat)(xs:List D),(env.set i (Sl.val d))[j]?=aa (.own xs)->i≠j:=λj xs e hj=>by
   subst hj;have hi:i<env.length:=by have:=(dX.mp e).1;simpa using this
   rw[jA hi]at e;cases e
  have hj:=f j xs e1;have hk:=f k ys e2;rw[aT hj]at e1 e3;rw[aT hk]at e2 e4;exact r.inj j k xs ys a e1 e2 e3 e4
 ·by_cases hj:i=j
  ·subst hj
   have hi:i<env.length:=by have:=(dX.mp e).1;simpa using this
   rw[jA hi]at e;cases e
  ·rw[aT hj]at e⊢
   exact r.raw j w e
 ·obtain⟨A,dd⟩:=r.ML
  have f:∀(j:Nat)(sl:Sl),(env.set i (Sl.val d))[j]?=aa sl->(∀d',sl≠.val d')->i≠j/\env[j]?=aa sl:=λj sl q hn=>by
   by_cases hj:i=j
   ·subst hj
    have hi:i<env.length:=by have:=(dX.mp q).1;simpa using this
    rw[jA hi]at q;exact(hn d (fj.inj q).symm).elim
   ·rw[aT hj]at q
    exact⟨hj,q⟩
  refine⟨A,dd.to (λj nss q=>?_) (λj xs b q z=>?_) λj nss q x hx=>⟨(dd.mem q x hx).1,rfl⟩⟩
  ·obtain⟨hj,q⟩:=f j _ q (λ_ z=>nomatch z)
   exact⟨q,by rw[aT hj]⟩
  ·obtain⟨hj,q⟩:=f j _ q (λ_ z=>nomatch z)
   rw[aT hj]at z;exact .inl ⟨xs,q,z⟩
def Rel.apart (r:Rel K g env σ H os){a:ae}(s:bS H H')(hn:H a=none):Ext (g.P os) (g.P (a::os)) H H':=
 ⟨λb o p e=>⟨p.1,λhm=>by
  rcases bR.mp hm with z|z
  ·rw[z,hn]at e;cases e
  ·exact p.2 z⟩,λb o _ e=>s b o e⟩
def dA{α:Type}{l:List α}{i:Nat}{x y:α}(e:(l.set i x)[i]?=aa y):y=x:=by
 have hi:i<l.length:=by have:=(dX.mp e).1;simpa using this
 rw[jA hi]at e;cases e;rfl
def Ao{α:Type}{l:List α}{i j:Nat}{x y:α}(e:(l.set i x)[j]?=aa y):j<l.length:=by have:=(dX.mp e).1;simpa using this
def Rel.Xq (r:Rel K g env σ H os)(s:bS H H')(i:Nat){xs:List D}{vs:List V}{a:ae}(hn:H a=none)(hH:H' a=aa (.lst vs))(h:IsL K (g.P (a::os)) H' xs vs):
  Rel K g (env.set i (.own xs)) (σ.set i (aa (.ref a))) H' (a::os):=by
 have ap:=r.apart s hn;have old:∀(j:Nat)(ys:List D),env[j]?=aa (.own ys)->σ[j]?=aa (aa (.ref a))->False:=λj ys e q=>by obtain⟨b,ws,h1,h2,h3,_⟩:=r.own j ys e;rw[q]at h1;cases h1;rw[hn]at h3;cases h3
 refine⟨by simp[r.len],r.ext.trans s,λj d' e=>?_,λj ys e=>?_,λj k ys zs b e1 e2 e3 e4=>?_,λb hb=>?_,λj w e=>?_,?_⟩
 ·by_cases hj:i=j
  ·subst hj
   exact nomatch dA e
  ·rw[aT hj]at e
   obtain⟨v,h1,h2⟩:=r.val j d' e;exact⟨v,by rw[aT hj];exact h1,Is.ext ap _ _ h2⟩
 ·by_cases hj:i=j
  ·subst hj
   have hi:=Ao e;have e':=dA e;cases e';exact⟨a,vs,by rw[jA (by rw[r.len];exact hi)],by simp,hH,h⟩
  ·rw[aT hj]at e
   obtain⟨b,ws,h1,h2,h3,h4⟩:=r.own j ys e;exact⟨b,ws,by rw[aT hj];exact h1,cP _ h2,s _ _ h3,IsL.ext ap _ _ h4⟩
 ·by_cases hj:i=j
  ·subst hj
   by_cases hk:i=k
   ·exact hk
   ·have e3':=dA e3
    cases e3';rw[aT hk]at e2 e4;exact(old k zs e2 e4).elim
  ·by_cases hk:i=k
   ·subst hk
    have e4':=dA e4;cases e4';rw[aT hj]at e1 e3;exact(old j ys e1 e3).elim
   ·rw[aT hj]at e1 e3
    rw[aT hk]at e2 e4;exact r.inj j k ys zs b e1 e2 e3 e4
 ·rcases bR.mp hb with rfl|hb
  ·exact⟨r.ext.free hn,_,hH⟩
  ·obtain⟨h1,o,h2⟩:=r.new b hb
   exact⟨h1,o,s _ _ h2⟩
 ·by_cases hj:i=j
  ·subst hj
   exact nomatch dA e
  ·rw[aT hj]at e⊢
   exact r.raw j w e
 ·obtain⟨A,dd⟩:=r.ML
  have f:∀(j:Nat)(sl:Sl),(env.set i (Sl.own xs))[j]?=aa sl->i≠j->env[j]?=aa sl:=λj sl q hj=>by rwa [aT hj]at q
  refine⟨A,dd.to (λj nss q=>?_) (λj ys b q z=>?_) λj nss q x hx=>?_⟩
  ·by_cases hj:i=j
   ·subst hj
    exact nomatch dA q
   ·exact⟨f j _ q hj,by rw[aT hj]⟩
  ·by_cases hj:i=j
   ·subst hj
    have z':=dA z;cases z';exact .inr λhm=>by obtain⟨o,ho⟩:=(r.new a hm).2;rw[hn]at ho;cases ho
   ·rw[aT hj]at z
    exact .inl ⟨ys,f j _ q hj,z⟩
  ·obtain⟨q1,o,q2⟩:=dd.mem q x hx
   exact⟨cP _ q1,by rw[s x o q2,q2]⟩
def Rel.mut (r:Rel K g env σ H os){i:Nat}{xs QT:List D}{Bt:List V}{a:ae}(e:env[i]?=aa (.own xs))(hσ:σ[i]?=aa (aa (.ref a)))(ha:a∈os)(h:IsL K (g.P os) H QT Bt):
  Rel K g (env.set i (.own QT)) σ (upd H a (.lst Bt)) os:=by
 have ex:Ext (g.P os) (g.P os) H (upd H a (.lst Bt)):=⟨λ_ _ p _=>p,λb o p q=>by rw[aM (λz=>p.2 (by rw[z];exact ha))];exact q⟩
 refine⟨by simp[r.len],λb o q=>?_,λj d' e'=>?_,λj ys e'=>?_,λj k ys zs b e1 e2 e3 e4=>?_,λb hb=>?_,λj w e'=>?_,?_⟩
 ·rw[aM (λz=>by rw[z,(r.new a ha).1]at q;cases q)]
  exact r.ext b o q
 ·by_cases hj:i=j
  ·subst hj
   exact nomatch dA e'
  ·rw[aT hj]at e'
   obtain⟨v,h1,h2⟩:=r.val j d' e';exact⟨v,h1,Is.ext ex _ _ h2⟩
 ·by_cases hj:i=j
  ·subst hj
   have e2:=dA e';cases e2;exact⟨a,Bt,hσ,ha,aV,IsL.ext ex _ _ h⟩
  ·rw[aT hj]at e'
   obtain⟨b,ws,h1,h2,h3,h4⟩:=r.own j ys e';have hb:b≠a:=λz=>by subst z;exact hj (r.inj i j xs ys b e e' hσ h1)
   exact⟨b,ws,h1,h2,by rw[aM hb];exact h3,IsL.ext ex _ _ h4⟩
 ·have f:∀(j:Nat)(ys:List D),(env.set i (Sl.own QT))[j]?=aa (.own ys)->∃ys',env[j]?=aa (.own ys'):=λj ys q=>by
   by_cases hj:i=j
   ·subst hj;exact⟨xs,e⟩
   ·rw[aT hj]at q;exact⟨ys,q⟩
  obtain⟨y1,f1⟩:=f j ys e1;obtain⟨y2,f2⟩:=f k zs e2;exact r.inj j k y1 y2 b f1 f2 e3 e4
 ·obtain⟨h1,o,h2⟩:=r.new b hb
  refine⟨h1,?_⟩
  by_cases z:b=a
  ·exact⟨_,by rw[z];exact aV⟩
  ·exact⟨o,by rw[aM z];exact h2⟩
 ·by_cases hj:i=j
  ·subst hj
   exact nomatch dA e'
  ·rw[aT hj]at e'
   exact r.raw j w e'
 ·obtain⟨A,dd⟩:=r.ML
  refine⟨A,dd.to (λj nss q=>?_) (λj ys b q z=>?_) λj nss q x hx=>⟨(dd.mem q x hx).1,?_⟩⟩
  ·by_cases hj:i=j
   ·subst hj
    exact nomatch dA q
   ·rw[aT hj]at q
    exact⟨q,rfl⟩
  ·by_cases hj:i=j
   ·subst hj
    exact .inl ⟨xs,e,z⟩
   ·rw[aT hj]at q
    exact .inl ⟨ys,q,z⟩
  ·have hxa:x≠a:=λz=>dd.ow j nss i xs a q e hσ (by rw[<-z];exact hx)
   rw[aM hxa]
end
section
variable(K:aj)(E:Str->Hp->Prop)
def tD(f:DE->R D):TE:=λσ H Q=>∃g env os,Rel K g env σ H os/\Good E g.H₀ (f env) λd=>∀v H',bS H H'->Is K (g.P os) H' d v->Q v H'
def tB(f:DE->R D):TE:=λσ H Q=>∃g env os,Rel K g env σ H os/\Good E g.H₀ (f env) λd=>∀v H',bS H H'->Is K (λ_=>True) H' d v->Q v H'
def tF(f:DE->R (List D)):TE:=λσ H Q=>∃g env os,Rel K g env σ H os/\Good E g.H₀ (f env) λxs=>∀a vs H',bS H H'->H a=none->H' a=aa (.lst vs)->IsL K (g.P (a::os)) H' xs vs->Q (.ref a) H'
def tL(f:DE->R (List D)):TE:=λσ H Q=>∃g env os,Rel K g env σ H os/\Good E g.H₀ (f env) λxs=>∀a vs H',bS H H'->lB K H' a vs->IsL K (g.P os) H' xs vs->Q (.ref a) H'
def tT(f:DE->R Bool):TT:=λσ H Q=>∃g env os,Rel K g env σ H os/\Good E g.H₀ (f env) λb=>∀H',bS H H'->Q b H'
def Hv(f:DE->R (List D)):TA:=λσ H Q=>∃g env os,Rel K g env σ H os/\Good E g.H₀ (f env) λds=>∀vs H',bS H H'->IsL K (g.P os) H' ds vs->Q vs H'
def yU(f:DE->R (List D)):TA:=λσ H Q=>∃g env os,Rel K g env σ H os/\Good E g.H₀ (f env) λds=>∀vs H',bS H H'->IsL K (λ_=>True) H' ds vs->Q vs H'
end
inductive Out where
 |nx (e:DE)|bk (e:DE)|ct (e:DE)|rt (d:D)|xm (xs:List D)|Io (nss:List (List Int))|Ip (nss:List (List Int))|Ir (q:Int×List Int)|Iu (c:Ct)|vM (d:D) (e:DE)
structure lZ(H:Hp)(os:List ae)(H':Hp)(dS:List ae):Prop where
 own:∀a∈dS,a∈os\/H a=none
 grow:∀a,H' a=none->H a=none
 keep:∀a o,a∉os->H a=aa o->H' a=aa o
def lZ.refl (H:Hp)(os:List ae):lZ H os H os:=⟨λ_ h=>.inl h,λ_ h=>h,λ_ _ _ h=>h⟩
def lZ.same {H H':Hp}(s:bS H H')(os:List ae):lZ H os H' os:=⟨λ_ h=>.inl h,λ_ h=>s.free h,λ_ _ _ h=>s _ _ h⟩
def lZ.trans {H H1 H2:Hp}{os Cj Iv:List ae}(a:lZ H os H1 Cj)(b:lZ H1 Cj H2 Iv):lZ H os H2 Iv where
 own:=λx h=>(b.own x h).elim (λz=>a.own x z) λz=>.inr (a.grow x z)
 grow:=λx h=>a.grow x (b.grow x h)
 keep:=λx o hn h=>b.keep x o (λz=>(a.own x z).elim hn λq=>by rw[h]at q;cases q) (a.keep x o hn h)
def lZ.ext {g:Gh}{H H':Hp}{os dS:List ae}(s:lZ H os H' dS):Ext (g.P os) (g.P dS) H H':=
 ⟨λa o p h=>⟨p.1,λz=>(s.own a z).elim p.2 λq=>by rw[h]at q;cases q⟩,λa o p h=>s.keep a o p.2 h⟩
structure Ut(hd:List V->HO)(H₀ H:Hp)(a:ae)(as:List ae)(nss:List (List Int)):Prop where
 fr:∀b∈a::as,H₀ b=none
 nd:(a::as).Nodup
 len:as.length=nss.length
 ha:H a=aa (hd (as.map V.ref))
 it:∀(k:Nat)(b:ae)(ns:List Int),as[k]?=aa b->nss[k]?=aa ns->H b=aa (.lst (ns.map V.int))
abbrev Xr:=Ut HO.lst
abbrev Xs:=Ut HO.tup
structure Xu(H₀ H:Hp)(a b:ae)(q:Int×List Int):Prop where
 fa:H₀ a=none
 fb:H₀ b=none
 ne:a≠b
 ha:H a=aa (.tup [.int q.1,.ref b])
 hb:H b=aa (.lst (q.2.map V.int))
def Xv(K:aj)(H₀ H:Hp)(a:ae)(c:Ct):Prop:=∃as,(∀x∈a::as,H₀ x=none)/\Dp K H (a::as) a as c
def Xw(K:aj)(g:Gh)(H:Hp)(a:ae)(ds:List D)(ns:List Int):Prop:=∃b m ws,g.H₀ a=none/\g.H₀ b=none/\g.H₀ m=none/\a≠b/\a≠m/\m≠b/\H a=aa (.tup [.ref m,.ref b])/\H b=aa (.lst (ns.map V.int))/\H m=aa (.lst ws)/\IsL K (g.P [a,b,m]) H ds ws
def Xx(K:aj)(g:Gh)(H:Hp)(a:ae):Ct->Prop
 |.tv ds ns=>Xw K g H a ds ns
 |c=>Xv K g.H₀ H a c
noncomputable def gD(K:aj)(g:Gh)(H:Hp)(os:List ae)(De:Ends):Out->Prop
 |.nx e=>∀σ' H' dS,Rel K g e σ' H' dS->lZ H os H' dS->De.nx σ' H'
 |.bk e=>∀σ' H' dS,Rel K g e σ' H' dS->lZ H os H' dS->De.bk σ' H'
 |.ct e=>∀σ' H' dS,Rel K g e σ' H' dS->lZ H os H' dS->De.ct σ' H'
 |.rt d=>∀v H',bS g.H₀ H'->Is K (g.P []) H' d v->De.rt v H'
 |.xm xs=>∀a vs H',bS g.H₀ H'->g.H₀ a=none->H' a=aa (.lst vs)->IsL K (g.P [a]) H' xs vs->De.rt (.ref a) H'
 |.Ip nss=>∀(a:ae)(as:List ae)(H':Hp),bS g.H₀ H'->Xs g.H₀ H' a as nss->De.rt (.ref a) H'
 |.Ir q=>∀(a b:ae)(H':Hp),bS g.H₀ H'->Xu g.H₀ H' a b q->De.rt (.ref a) H'
 |.Io nss=>∀(a:ae)(as:List ae)(H':Hp),bS g.H₀ H'->Xr g.H₀ H' a as nss->De.rt (.ref a) H'
 |.Iu c=>∀(a:ae)(H':Hp),bS g.H₀ H'->Xx K g H' a c->De.rt (.ref a) H'
 |.vM d e=>∀v σ' H' dS,Rel K g e σ' H' dS->lZ H os H' dS->Is K (g.P dS) H' d v->De.rt v H'
def gD.step {K:aj}{g:Gh}{H H1:Hp}{os Cj:List ae}{De:Ends}(s:lZ H os H1 Cj):∀{o:Out},gD K g H os De o->gD K g H1 Cj De o
 |.nx e,h=>λσ' H' dS r z=>h σ' H' dS r (s.trans z)
 |.bk e,h=>λσ' H' dS r z=>h σ' H' dS r (s.trans z)
 |.ct e,h=>λσ' H' dS r z=>h σ' H' dS r (s.trans z)
 |.rt d,h=>h
 |.xm xs,h=>h
 |.Ip xs,h=>h
 |.Ir xs,h=>h
 |.Io xs,h=>h
 |.Iu xs,h=>h
 |.vM d e,h=>λv σ' H' dS r z i=>h v σ' H' dS r (s.trans z) i
def tS(K:aj)(E:Str->Hp->Prop)(f:DE->R Out):TS:=λDe σ H=>∃g env os,Rel K g env σ H os/\Good E g.H₀ (f env) (gD K g H os De)
section
variable{X:Cx}{E:Str->Hp->Prop}{pos:Pos}
def imp{e:ak}{t t':TE}(h:PE X e t)(w:∀σ H Q,t' σ H Q->t σ H Q):PE X e t':=λpins s σ H Q I q=>h pins s σ H Q I (w σ H Q q)
def CH{e:ak}{t t':TT}(h:PT X e t)(w:∀σ H Q,t' σ H Q->t σ H Q):PT X e t':=λpins s σ H Q I q=>h pins s σ H Q I (w σ H Q q)
def MM{e:ak}{t t':TT}(h:PW X e t)(w:∀σ H Q,t' σ H Q->t σ H Q):PW X e t':=λwh pins s σ H Q I q=>h wh pins s σ H Q I (w σ H Q q)
def Hw{e:List ak}{t t':TA}(h:PA X e t)(w:∀σ H Q,t' σ H Q->t σ H Q):PA X e t':=λpos pins s σ H Q I q=>h pos pins s σ H Q I (w σ H Q q)
def uT{e:aB}{t t':TS}(h:PS X e t)(w:∀De σ H,t' De σ H->t De σ H):PS X e t':=λpins s σ H Q I q=>h pins s σ H Q I (w Q σ H q)
def O6{e:List aB}{t t':TS}(h:qG X e t)(w:∀De σ H,t' De σ H->t De σ H):qG X e t':=λpins s σ H Q I q=>h pins s σ H Q I (w Q σ H q)
def fS(i:Nat)(env:DE):R D:=match env[i]? with
 |some (.val d)=>.ok d
 |_=>.bad
def dT(t:MJ):D:=.tup [.int t.1,.int t.2.1,.lst (t.2.2.map .int)]
noncomputable def aU(i:Nat)(env:DE):R D:=match env[i]? with
 |some (.val d)=>.ok d
 |some (.own xs)=>.ok (.lst xs)
 |some (.deep (.ls nss))=>.ok (.lst (nss.map λns=>.lst (ns.map .int)))
 |some (.deep (.tp nss))=>.ok (.tup (nss.map λns=>.lst (ns.map .int)))
 |some (.deep (.tq n ns))=>.ok (.tup [.int n,.lst (ns.map .int)])
 |some (.deep (.tr ts))=>.ok (.lst (ts.map dT))
 |some (.deep (.tf h nss))=>.ok (.tup [.int h,.lst (nss.map λns=>.lst (ns.map .int))])
 |some (.deep (.tv ds ns))=>.ok (.tup [.lst ds,.lst (ns.map .int)])
 |_=>.bad
theorem iS{K:aj}{P:ae->Prop}{H:Hp}:∀(ns:List Int),IsL K P H (ns.map D.int) (ns.map V.int)
 |[]=>rfl
 |n::ns=>⟨_,_,rfl,rfl,iS ns⟩
theorem uU{K:aj}{H:Hp}{os:List ae}:∀{as:List ae}{nss:List (List Int)},as.length=nss.length->(∀(k:Nat)(b:ae)(ns:List Int),as[k]?=aa b->nss[k]?=aa ns->b∈os/\H b=aa (.lst (ns.map V.int)))->IsL K (λ_=>True) H (nss.map λns=>.lst (ns.map D.int)) (as.map V.ref)
 |[],[],_,_=>rfl
 |[],_::_,h,_=>by simp at h
 |_::_,[],h,_=>by simp at h
 |a::as,ns::nss,h,hi=>⟨_,_,rfl,⟨a,_,rfl,.inl ⟨trivial,.inl (hi 0 a ns rfl rfl).2⟩,iS ns⟩,uU (by simpa using h) λk b ms e1 e2=>hi (k+1) b ms e1 e2⟩
theorem CI{K:aj}{P:ae->Prop}{H:Hp}{as:List ae}(hp:∀x∈as,P x):∀{ts:List MJ}{vs:List V},vs.length=ts.length->(∀(k:Nat)(t:MJ)(v:V),ts[k]?=aa t->vs[k]?=aa v->Us H as t v)->IsL K P H (ts.map dT) vs
 |[],[],_,_=>rfl
 |[],_::_,h,_=>by simp at h
 |_::_,[],h,_=>by simp at h
 |t::ts,v::vs,h,hi=>by obtain⟨b,c,rfl,h1,h2,h3,h4⟩:=hi 0 t v rfl rfl;exact⟨_,_,rfl,⟨b,_,rfl,.inl ⟨hp b h1,.inl h3⟩,⟨_,_,rfl,rfl,⟨_,_,rfl,rfl,⟨_,_,rfl,⟨c,_,rfl,.inl ⟨hp c h2,.inl h4⟩,iS t.2.2⟩,rfl⟩⟩⟩⟩,CI hp (by simpa using h) λk t v e1 e2=>hi (k+1) t v e1 e2⟩
def iR(i:Nat)(env:DE):R (List D):=match env[i]? with
 |some (.val (.lst xs))=>.ok xs
 |some (.own xs)=>.ok xs
 |_=>.bad
def nD(i:Nat){x:Str}(hN:X.N[i]?=aa x:=by rfl)(hv:D5 X.env.scope x:=by first|exact cD rfl|exact b9 (cD rfl)|exact b9 (b9 rfl))(hd:(x==("__debug__":Str))=false:=by decide)
  (hcd:(x==("__classdict__":Str))=false:=by decide):PE X (.Name x pos) (tD X.K E (fS i)):=imp (nU hN hv hd hcd) λσ H Q ⟨g,env,os,r,m⟩=>by
 unfold fS at m;cases e:env[i]? with
 |none=>rw[e]at m;exact m.elim
 |some sl=>
  cases sl with
  |no=>rw[e]at m;exact m.elim
  |raw _=>rw[e]at m;exact m.elim
  |deep _=>rw[e]at m;exact m.elim
  |own xs=>rw[e]at m;exact m.elim
  |val d=>
   rw[e]at m;obtain⟨v,h1,h2⟩:=r.val i d e;exact⟨v,h1,m v H (bS.refl H) h2⟩
def nB(i:Nat){x:Str}(hN:X.N[i]?=aa x:=by rfl)(hv:D5 X.env.scope x:=by first|exact cD rfl|exact b9 (cD rfl)|exact b9 (b9 rfl))(hd:(x==("__debug__":Str))=false:=by decide)
  (hcd:(x==("__classdict__":Str))=false:=by decide):PE X (.Name x pos) (tB X.K E (aU i)):=imp (nU hN hv hd hcd) λσ H Q ⟨g,env,os,r,m⟩=>by
 unfold aU at m;cases e:env[i]? with
 |none=>rw[e]at m;exact m.elim
 |some sl=>
  cases sl with
  |no=>rw[e]at m;exact m.elim
  |raw _=>rw[e]at m;exact m.elim
  |own xs=>
   rw[e]at m;obtain⟨a,vs,h1,_,h3,h4⟩:=r.own i xs e;exact⟨.ref a,h1,m _ H (bS.refl H) ⟨a,vs,rfl,.inl ⟨trivial,.inl h3⟩,h4.weak⟩⟩
  |deep c=>
   obtain⟨A,dd⟩:=r.ML;obtain⟨a,as,_,h1,h3⟩:=dd.dp i c e;cases c with
   |ls nss=>
    rw[e]at m;exact⟨.ref a,h1,m _ H (bS.refl H) ⟨a,_,rfl,.inl ⟨trivial,.inl h3.ha⟩,uU h3.len h3.it⟩⟩
   |tp nss=>
    rw[e]at m;have h4:CG HO.tup H os a as nss:=h3;exact⟨.ref a,h1,m _ H (bS.refl H) ⟨a,_,rfl,.inl ⟨trivial,.inl h4.ha⟩,uU h4.len h4.it⟩⟩
   |dk ks=>rw[e]at m;exact m.elim
   |lm _ _ _ _=>rw[e]at m;exact m.elim
   |tq n ns=>
    rw[e]at m;obtain⟨b,_,_,_,_,h4,h5⟩:=h3;exact⟨.ref a,h1,m _ H (bS.refl H) ⟨a,_,rfl,.inl ⟨trivial,.inl h4⟩,⟨_,_,rfl,rfl,⟨_,_,rfl,⟨b,_,rfl,.inl ⟨trivial,.inl h5⟩,iS ns⟩,rfl⟩⟩⟩⟩
   |tr ts=>
    rw[e]at m;have h4:QS H os a as ts:=h3;obtain⟨vs,q1,q2,q3⟩:=h4.at_
    exact⟨.ref a,h1,m _ H (bS.refl H) ⟨a,_,rfl,.inl ⟨trivial,.inl q1⟩,CI (λ_ _=>trivial) q2 q3⟩⟩
   |tf k nss=>
    rw[e]at m;obtain⟨b,bs,_,_,_,h4,h5⟩:=h3;exact⟨.ref a,h1,m _ H (bS.refl H) ⟨a,_,rfl,.inl ⟨trivial,.inl h4⟩,⟨_,_,rfl,rfl,⟨_,_,rfl,⟨b,_,rfl,.inl ⟨trivial,.inl h5.ha⟩,uU h5.len h5.it⟩,rfl⟩⟩⟩⟩
   |tv ds ns=>
    rw[e]at m;obtain⟨b,c,ws,_,_,_,_,_,h4,h5,h6,h7⟩:=h3;exact⟨.ref a,h1,m _ H (bS.refl H) ⟨a,_,rfl,.inl ⟨trivial,.inl h4⟩,⟨_,_,rfl,⟨c,ws,rfl,.inl ⟨trivial,.inl h6⟩,IsL.ext ⟨λ_ _ _ _=>trivial,λ_ _ _ q=>q⟩ _ _ h7⟩,⟨_,_,rfl,⟨b,_,rfl,.inl ⟨trivial,.inl h5⟩,iS ns⟩,rfl⟩⟩⟩⟩
  |val d=>
   rw[e]at m;obtain⟨v,h1,h2⟩:=r.val i d e;exact⟨v,h1,m v H (bS.refl H) h2.weak⟩
def nL(i:Nat){x:Str}(hN:X.N[i]?=aa x:=by rfl)(hv:D5 X.env.scope x:=by first|exact cD rfl|exact b9 (cD rfl)|exact b9 (b9 rfl))(hd:(x==("__debug__":Str))=false:=by decide)
  (hcd:(x==("__classdict__":Str))=false:=by decide):PE X (.Name x pos) (tL X.K E (iR i)):=imp (nU hN hv hd hcd) λσ H Q ⟨g,env,os,r,m⟩=>by
 unfold iR at m;cases e:env[i]? with
 |none=>rw[e]at m;exact m.elim
 |some sl=>
  cases sl with
  |no=>rw[e]at m;exact m.elim
  |raw _=>rw[e]at m;exact m.elim
  |deep _=>rw[e]at m;exact m.elim
  |own xs=>
   rw[e]at m;obtain⟨a,vs,h1,_,h3,h4⟩:=r.own i xs e;exact⟨.ref a,h1,m _ _ H (bS.refl H) (lB.of h3) h4⟩
  |val d=>
   cases d with
   |lst xs=>
    rw[e]at m;obtain⟨v,h1,a,vs,rfl,h3,h4⟩:=r.val i _ e;exact⟨_,h1,m _ _ H (bS.refl H) h3.sq h4⟩
   |non=>rw[e]at m;exact m.elim
   |bl _=>rw[e]at m;exact m.elim
   |int _=>rw[e]at m;exact m.elim
   |str _=>rw[e]at m;exact m.elim
   |exc _=>rw[e]at m;exact m.elim
   |fn _=>rw[e]at m;exact m.elim
   |tup _=>rw[e]at m;exact m.elim
def cI{i j}:PE X (.Constant (.int i) j pos) (tD X.K E λ_=>.ok (.int i)):=imp nV λσ H Q ⟨g,env,os,r,m⟩=>m _ H (bS.refl H) rfl
def sI{i j}:PE X (.Constant (.bool i) j pos) (tD X.K E λ_=>.ok (.bl i)):=imp ID λσ H Q ⟨g,env,os,r,m⟩=>m _ H (bS.refl H) rfl
def cN{j}:PE X (.Constant .none j pos) (tD X.K E λ_=>.ok .non):=imp Qz λσ H Q ⟨g,env,os,r,m⟩=>m _ H (bS.refl H) rfl
def cS{i j}:PE X (.Constant (.str i) j pos) (tD X.K E λ_=>.ok (.str i)):=imp l8 λσ H Q ⟨g,env,os,r,m⟩=>m _ H (bS.refl H) rfl
def PE.aE {e:ak}{f:DE->R D}(h:PE X e (tD X.K E f)):PE X e (tB X.K E f):=imp h λσ H Q ⟨g,env,os,r,m⟩=>⟨g,env,os,r,m.mono λd _ q v H' s i=>q v H' s i.weak⟩
def PE.iw {e:ak}{f:DE->R (List D)}(h:PE X e (tF X.K E f)):PE X e (tD X.K E λenv=>(f env).bind λxs=>.ok (.lst xs)):=imp h λσ H Q ⟨g,env,os,r,m⟩=>⟨g,env,os,r,m.bind.mono λd _ q a vs H' s hn hH i=>by refine q _ H' s ⟨a,vs,rfl,.inl ⟨r.fresh hn,.inl hH⟩,IsL.ext ⟨λb o p _=>⟨p.1,λz=>p.2 (cP _ z)⟩,λ_ _ _ q=>q⟩ _ _ i⟩⟩
def PE.g5 {e:ak}{f:DE->R (List D)}(h:PE X e (tF X.K E f)):PE X e (tL X.K E f):=imp h λσ H Q ⟨g,env,os,r,m⟩=>⟨g,env,os,r,m.mono λd _ q a vs H' s hn hH i=>
 q _ vs H' s (lB.of hH) (IsL.ext ⟨λb o p _=>⟨p.1,λz=>p.2 (cP _ z)⟩,λ_ _ _ q=>q⟩ _ _ i)⟩
def Jf:D->R (List D)
 |.lst xs=>.ok xs
 |_=>.bad
def PE.Uu {e:ak}{f:DE->R D}(h:PE X e (tD X.K E f)):PE X e (tL X.K E λenv=>(f env).bind Jf):=imp h λσ H Q ⟨g,env,os,r,m⟩=>⟨g,env,os,r,m.bind.mono λd _ q v H' s i=>by
 cases d with
 |lst xs=>
  obtain⟨a,vs,rfl,h3,h4⟩:=i;exact q a vs H' s h3.sq h4
 |non=>exact q.elim
 |bl _=>exact q.elim
 |int _=>exact q.elim
 |str _=>exact q.elim
 |exc _=>exact q.elim
 |fn _=>exact q.elim
 |tup _=>exact q.elim⟩
abbrev Tr:ae->Prop:=λ_=>True
def ki(X:Cx)(r:R2)(k:D->D->Option D):Prop:=∀x y d,k x y=aa d->∃z,toV d=aa z/\∀H v w (Q:VK),Is X.K Tr H x v->Is X.K Tr H y w->Q z H->r v w H Q
def cu{op:Operator}{r:R2}{a b:ak}{fa fb:DE->R D}{k:D->D->Option D}(ho:qz X (nc op) r)(hk:ki X r k)(ha:PE X a (tB X.K E fa))(hb:PE X b (tB X.K E fb)):
  PE X (.BinOp a op b pos) (tD X.K E λenv=>(fa env).bind λx=>(fb env).bind λy=>R.of (k x y)):=
 imp (CA ho ha hb) λσ H Q ⟨g,env,os,r,m⟩=>⟨g,env,os,r,m.bind.mono λx _ m1 v H1 s1 i1=>⟨g,env,os,r.same s1,m1.bind.mono λy _ m2 w H2 s2 i2=>by obtain⟨d,e,q⟩:=m2.of;obtain⟨z,hz,hk⟩:=hk x y d e;exact hk H2 v w Q (i1.same s2) i2 (q z H2 (s1.trans s2) (Is.sc hz))⟩⟩
def lM{op:jc}{r:R2}{a b:ak}{fa fb:DE->R D}{k:D->D->Option D}(ho:qz X (dE op) r)(hk:ki X r k)(ha:PE X a (tB X.K E fa))(hb:PE X b (tB X.K E fb))(hm:pF op b=false):
  PE X (.Compare a [op] [b] pos) (tD X.K E λenv=>(fa env).bind λx=>(fb env).bind λy=>R.of (k x y)):=
 imp (FI ho ha hb hm) λσ H Q ⟨g,env,os,r,m⟩=>⟨g,env,os,r,m.bind.mono λx _ m1 v H1 s1 i1=>⟨g,env,os,r.same s1,m1.bind.mono λy _ m2 w H2 s2 i2=>by obtain⟨d,e,q⟩:=m2.of;obtain⟨z,hz,hk⟩:=hk x y d e;exact hk H2 v w Q (i1.same s2) i2 (q z H2 (s1.trans s2) (Is.sc hz))⟩⟩
def cK:D->R Bool
 |.bl b=>.ok b
 |_=>.bad
def bX{op:jc}{r:R2}{a b:ak}{fa fb:DE->R D}{k:D->D->Option D}(ho:qz X (dE op) r)(hk:ki X r k)(ha:PE X a (tB X.K E fa))(hb:PE X b (tB X.K E fb))(hm:pF op b=false):
  PT X (.Compare a [op] [b] pos) (tT X.K E λenv=>(fa env).bind λx=>(fb env).bind λy=>(R.of (k x y)).bind cK):=
 CH (lJ ho ha hb hm) λσ H Q ⟨g,env,os,r,m⟩=>⟨g,env,os,r,m.bind.mono λx _ m1 v H1 s1 i1=>⟨g,env,os,r.same s1,m1.bind.mono λy _ m2 w H2 s2 i2=>by
  obtain⟨d,e,q⟩:=m2.bind.of;obtain⟨z,hz,hk⟩:=hk x y d e;refine hk H2 v w _ (i1.same s2) i2 ?_;cases d with
  |bl b=>
   cases hz;exact⟨b,rfl,q H2 (s1.trans s2)⟩
  |non=>exact q.elim
  |lst _=>exact q.elim
  |int _=>exact q.elim
  |str _=>exact q.elim
  |exc _=>exact q.elim
  |fn _=>exact q.elim
  |tup _=>exact q.elim⟩⟩
def QU{op Ea:jc}{r r':R2}{a b c:ak}{fa fb fc:DE->R D}{k k':D->D->Option D}(ho:qz X (dE op) r)(hk:ki X r k)(D6:qz X (dE Ea) r')(Je:ki X r' k')(ha:PE X a (tB X.K E fa))(hb:PE X b (tB X.K E fb))(hc:PE X c (tB X.K E fc))
  (hm:A2 [op,Ea] [b,c]=false:=by with_unfolding_all rfl):
  PE X (.Compare a [op,Ea] [b,c] pos) (tD X.K E λenv=>(fa env).bind λx=>(fb env).bind λy=>(R.of (k x y)).bind λd=>(cK d).bind λt=>if t=true then(fc env).bind λz=>R.of (k' y z)else .ok (.bl false)):=
 imp (IV ho D6 ha hb hc hm) λσ H Q ⟨g,env,os,r,m⟩=>⟨g,env,os,r,m.bind.mono λx _ m1 v H1 s1 i1=>⟨g,env,os,r.same s1,m1.bind.mono λy _ m2 w H2 s2 i2=>by
  obtain⟨d,e,q⟩:=m2.bind.of;obtain⟨z,hz,hk⟩:=hk x y d e;refine hk H2 v w _ (i1.same s2) i2 ?_;cases d with
  |bl b=>
   cases hz;refine⟨b,rfl,?_⟩;cases b with
   |false=>
    rw[if_neg gu];exact q _ H2 (s1.trans s2) rfl
   |true=>
    rw[if_pos rfl];have q':Good E g.H₀ ((fc env).bind λz=>R.of (k' y z)) _:=q;refine⟨g,env,os,r.same (s1.trans s2),q'.bind.mono λz _ m3 w3 H3 s3 i3=>?_⟩;obtain⟨d',e',q3⟩:=m3.of;obtain⟨z',Uv,Je⟩:=Je y z d' e';exact Je H3 w w3 Q (i2.same s3) i3 (q3 z' H3 (s1.trans (s2.trans s3)) (Is.sc Uv))
  |non=>exact q.elim
  |lst _=>exact q.elim
  |int _=>exact q.elim
  |str _=>exact q.elim
  |exc _=>exact q.elim
  |fn _=>exact q.elim
  |tup _=>exact q.elim⟩⟩
def Uw(X:Cx)(r:V->Hp->VK->Prop)(k:D->Option D):Prop:=∀x d,k x=aa d->∃z,toV d=aa z/\∀H v (Q:VK),Is X.K Tr H x v->Q z H->r v H Q
def zU{op:UnaryOp}{r:V->Hp->VK->Prop}{a:ak}{fa:DE->R D}{k:D->Option D}(ho:Wd X (unaryOp op) r)(hk:Uw X r k)(ha:PE X a (tB X.K E fa)):
  PE X (.UnaryOp op a pos) (tD X.K E λenv=>(fa env).bind λx=>R.of (k x)):=
 imp (T8 ho ha) λσ H Q ⟨g,env,os,r,m⟩=>⟨g,env,os,r,m.bind.mono λx _ m1 v H1 s1 i1=>by obtain⟨d,e,q⟩:=m1.of;obtain⟨z,hz,hk⟩:=hk x d e;exact hk H1 v Q i1 (q z H1 s1 (Is.sc hz))⟩
def qN:D->D->Option D
 |.int i,.int j=>aa (.int (i-j))
 |_,_=>none
def Eo:D->D->Option D
 |.int i,.int j=> @ite _ ((-(2^64)<i/\i<2^64)\/(-(2^64)<j/\j<2^64)) (jK _) (aa (.int (i*j))) (none)
 |_,_=>none
def nW:D->D->Option D
 |.int i,.int j=> @ite _ (0<j/\j<1073741824) (jK _) (aa (.int (i/j))) (none)
 |_,_=>none
def kR:D->D->Option D
 |.int i,.int j=> @ite _ (0<j) (jK _) (aa (.int (i%j))) (none)
 |_,_=>none
def Jg:D->D->Option D
 |.int i,.int j=> @ite _ (0<=j/\j<=1000000/\i.natAbs<2^64) (jK _) (aa (.int (i^j.toNat))) (none)
 |_,_=>none
def lN:D->Option D
 |.int i=>aa (.int (-i))
 |_=>none
def Ep:D->D->Option D
 |.int i,.int j=>aa (.bl (decide (i<j)))
 |_,_=>none
def Tj:D->D->Option D
 |.int i,.int j=>aa (.bl (decide (i<=j)))
 |_,_=>none
def Lu:D->D->Option D
 |.int i,.int j=>aa (.bl (decide (j<i)))
 |_,_=>none
def Tn:D->D->Option D
 |.int i,.int j=>aa (.bl (decide (j<=i)))
 |_,_=>none
def oH{g:Int->Int->V}{h:Int->Int->D}{k:D->D->Option D}(hg:∀i j,toV (h i j)=aa (g i j))(hk:∀x y d,k x y=aa d->∃i j,x=.int i/\y=.int j/\d=h i j):ki X (D9 g) k:=λx y d e=>by obtain⟨i,j,rfl,rfl,rfl⟩:=hk x y d e;refine⟨g i j,hg i j,λH v w Q h1 h2 q=>⟨i,j,h1,h2,q⟩⟩
def yp{C:Int->Int->Prop}{g:Int->Int->V}{h:Int->Int->D}{k:D->D->Option D}(hg:∀i j,toV (h i j)=aa (g i j))(hk:∀x y d,k x y=aa d->∃i j,x=.int i/\y=.int j/\C i j/\d=h i j):ki X (rI C g) k:=λx y d e=>by obtain⟨i,j,rfl,rfl,c,rfl⟩:=hk x y d e;refine⟨g i j,hg i j,λH v w Q h1 h2 q=>⟨i,j,h1,h2,c,q⟩⟩
def g4:ki X (D9 λi j=>.int (i-j)) qN:=oH (h:=λi j=>.int (i-j)) (λ_ _=>rfl) λx y d e=>by unfold qN at e;split at e<;>cases e;exact⟨_,_,rfl,rfl,rfl⟩
def kT:ki X (D9 λi j=>.bl (decide (i<j))) Ep:=oH (h:=λi j=>.bl (decide (i<j))) (λ_ _=>rfl) λx y d e=>by unfold Ep at e;split at e<;>cases e;exact⟨_,_,rfl,rfl,rfl⟩
def Er:ki X (D9 λi j=>.bl (decide (i<=j))) Tj:=oH (h:=λi j=>.bl (decide (i<=j))) (λ_ _=>rfl) λx y d e=>by unfold Tj at e;split at e<;>cases e;exact⟨_,_,rfl,rfl,rfl⟩
def tU:ki X (D9 λi j=>.bl (decide (j<i))) Lu:=oH (h:=λi j=>.bl (decide (j<i))) (λ_ _=>rfl) λx y d e=>by unfold Lu at e;split at e<;>cases e;exact⟨_,_,rfl,rfl,rfl⟩
def Es:ki X (D9 λi j=>.bl (decide (j<=i))) Tn:=oH (h:=λi j=>.bl (decide (j<=i))) (λ_ _=>rfl) λx y d e=>by unfold Tn at e;split at e<;>cases e;exact⟨_,_,rfl,rfl,rfl⟩
def yq:ki X (rI LX λi j=>.int (i*j)) Eo:=yp (h:=λi j=>.int (i*j)) (λ_ _=>rfl) λx y d e=>by
 unfold Eo at e;split at e
 ·split at e
  ·rename_i i j c
   cases e;exact⟨i,j,rfl,rfl,c,rfl⟩
  ·cases e
 ·cases e
def iA:ki X (rI Ua λi j=>.int (i/j)) nW:=yp (h:=λi j=>.int (i/j)) (λ_ _=>rfl) λx y d e=>by
 unfold nW at e;split at e
 ·split at e
  ·rename_i i j c
   cases e;exact⟨i,j,rfl,rfl,c,rfl⟩
  ·cases e
 ·cases e
def fG:ki X (rI (λ_ j=>0<j) λi j=>.int (i%j)) kR:=yp (h:=λi j=>.int (i%j)) (λ_ _=>rfl) λx y d e=>by
 unfold kR at e;split at e
 ·split at e
  ·rename_i i j c
   cases e;exact⟨i,j,rfl,rfl,c,rfl⟩
  ·cases e
 ·cases e
def MN:ki X (rI Ub λi j=>.int (i^j.toNat)) Jg:=yp (h:=λi j=>.int (i^j.toNat)) (λ_ _=>rfl) λx y d e=>by
 unfold Jg at e;split at e
 ·split at e
  ·rename_i i j c
   cases e;exact⟨i,j,rfl,rfl,c,rfl⟩
  ·cases e
 ·cases e
def ek:Uw X (rU λi=>.int (-i)) lN:=λx d e=>by unfold lN at e;split at e<;>cases e;exact⟨_,rfl,λH v Q h1 q=>⟨_,h1,q⟩⟩
def iU{a:ak}{f:DE->R Bool}(h:PT X a (tT X.K E f)):PT X (.UnaryOp .Not a pos) (tT X.K E λenv=>(f env).bind λb=>.ok (!b)):=
 CH (IF h) λσ H Q ⟨g,env,os,r,m⟩=>⟨g,env,os,r,m.bind.mono λb _ q H' s=>q H' s⟩
def ql{a:ak}{f:DE->R Bool}(h:PT X a (tT X.K E f)):PW X (.BoolOp .And [a] pos) (tT X.K E f):=pw_and1 h
def zV{a:ak}{f:DE->R Bool}(h:PT X a (tT X.K E f)):PW X (.BoolOp .Or [a] pos) (tT X.K E f):=pw_or1 h
def lC{a b:ak}{rest:List ak}{f k:DE->R Bool}(h:PT X a (tT X.K E f))(h2:PW X (.BoolOp .And (b::rest) pos) (tT X.K E k)):PW X (.BoolOp .And (a::b::rest) pos) (tT X.K E λenv=>(f env).bind λt=>if t=true then k env else .ok false):=
 MM (pw_and h h2) λσ H Q ⟨g,env,os,r,m⟩=>⟨g,env,os,r,m.bind.mono λt _ q H' s=>by
  cases t with
  |true=>exact⟨g,env,os,r.same s,Good.mono (show Good E g.H₀ (k env) _ from q) λb _ q2 H2 s2=>q2 H2 (s.trans s2)⟩
  |false=>exact q H' s⟩
def xG{a b:ak}{rest:List ak}{f k:DE->R Bool}(h:PT X a (tT X.K E f))(h2:PW X (.BoolOp .Or (b::rest) pos) (tT X.K E k)):PW X (.BoolOp .Or (a::b::rest) pos) (tT X.K E λenv=>(f env).bind λt=>if t=true then .ok true else k env):=
 MM (pw_or h h2) λσ H Q ⟨g,env,os,r,m⟩=>⟨g,env,os,r,m.bind.mono λt _ q H' s=>by
  cases t with
  |false=>exact⟨g,env,os,r.same s,Good.mono (show Good E g.H₀ (k env) _ from q) λb _ q2 H2 s2=>q2 H2 (s.trans s2)⟩
  |true=>exact q H' s⟩
def fT{e:ak}{f:DE->R D}(h:PE X e (tB X.K E f))(he:∀whole,isTrue e X.env whole=(do let v<-whole;m9 e.pos;lH [v] (truthy v)):=by intro _;rfl):PT X e (tT X.K E λenv=>(f env).bind cK):=
 CH (IE h he) λσ H Q ⟨g,env,os,r,m⟩=>⟨g,env,os,r,m.bind.mono λd _ q v H' s i=>by
  cases d with
  |bl b=>exact⟨b,i,q H' s⟩
  |non=>exact q.elim
  |lst _=>exact q.elim
  |int _=>exact q.elim
  |str _=>exact q.elim
  |exc _=>exact q.elim
  |fn _=>exact q.elim
  |tup _=>exact q.elim⟩
def uV{op}{a:ak}{f:DE->R D}(h:PE X a (tD X.K E f)):PE X (.BoolOp op [a] pos) (tD X.K E f):=IG h
def tV{a b:ak}{rest:List ak}{f k:DE->R D}(h:PE X a (tB X.K E f))(h2:PE X (.BoolOp .And (b::rest) pos) (tD X.K E k)):PE X (.BoolOp .And (a::b::rest) pos) (tD X.K E λenv=>(f env).bind λx=>(cK x).bind λt=>if t=true then k env else .ok (.bl false)):=
 imp (II h h2) λσ H Q ⟨g,env,os,r,m⟩=>⟨g,env,os,r,m.bind.mono λd _ q v H' s i=>by
  cases d with
  |bl b=>
   refine⟨b,i,?_⟩;cases b with
   |true=>
    rw[if_pos rfl];exact⟨g,env,os,r.same s,Good.mono (show Good E g.H₀ (k env) _ from q) λb _ q2 v2 H2 s2 i2=>q2 v2 H2 (s.trans s2) i2⟩
   |false=>
    rw[if_neg gu];exact q _ H' s rfl
  |non=>exact q.elim
  |lst _=>exact q.elim
  |int _=>exact q.elim
  |str _=>exact q.elim
  |exc _=>exact q.elim
  |fn _=>exact q.elim
  |tup _=>exact q.elim⟩
def Xy{a:ak}{f:DE->R D}(h:PE X a (tB X.K E f)):PE X (.UnaryOp .Not a pos) (tD X.K E λenv=>(f env).bind λx=>(cK x).bind λt=>.ok (.bl (!t))):=
 imp (QA h) λσ H Q ⟨g,env,os,r,m⟩=>⟨g,env,os,r,m.bind.mono λd _ q v H' s i=>by
  cases d with
  |bl b=>exact⟨b,i,q _ H' s rfl⟩
  |non=>exact q.elim
  |lst _=>exact q.elim
  |int _=>exact q.elim
  |str _=>exact q.elim
  |exc _=>exact q.elim
  |fn _=>exact q.elim
  |tup _=>exact q.elim⟩
def Wj{c a b:ak}{fc:DE->R Bool}{fa fb:DE->R D}(hc:PT X c (tT X.K E fc))(ha:PE X a (tD X.K E fa))(hb:PE X b (tD X.K E fb)):PE X (.IfExp c a b pos) (tD X.K E λenv=>(fc env).bind λt=>if t=true then fa env else fb env):=
 imp (IJ hc ha hb) λσ H Q ⟨g,env,os,r,m⟩=>⟨g,env,os,r,m.bind.mono λt _ q H' s=>by
  cases t with
  |true=>
   rw[if_pos rfl];exact⟨g,env,os,r.same s,Good.mono (show Good E g.H₀ (fa env) _ from q) λb _ q2 v2 H2 s2 i2=>q2 v2 H2 (s.trans s2) i2⟩
  |false=>
   rw[if_neg gu];exact⟨g,env,os,r.same s,Good.mono (show Good E g.H₀ (fb env) _ from q) λb _ q2 v2 H2 s2 i2=>q2 v2 H2 (s.trans s2) i2⟩⟩
def dI:PA X [] (Hv X.K E λ_=>.ok []):=Hw cX λσ H Q ⟨g,env,os,r,m⟩=>m [] H (bS.refl H) rfl
def bD:PA X [] (yU X.K E λ_=>.ok []):=Hw cX λσ H Q ⟨g,env,os,r,m⟩=>m [] H (bS.refl H) rfl
def aJ{e:ak}{es:List ak}{f:DE->R D}{k:DE->R (List D)}(ha:PE X e (tD X.K E f))(hr:PA X es (Hv X.K E k))(hs:aq (e::es) X.env=(false,aK e X.env)::aq es X.env:=by rfl):
  PA X (e::es) (Hv X.K E λenv=>(f env).bind λx=>(k env).bind λxs=>.ok (x::xs)):=
 Hw (aX ha hr hs) λσ H Q ⟨g,env,os,r,m⟩=>⟨g,env,os,r,m.bind.mono λx _ m1 v H1 s1 i1=>⟨g,env,os,r.same s1,m1.bind.mono λxs _ m2 vs H2 s2 i2=>m2 (v::vs) H2 (s1.trans s2) (.cons (i1.same s2) i2)⟩⟩
def aC{e:ak}{es:List ak}{f:DE->R D}{k:DE->R (List D)}(ha:PE X e (tB X.K E f))(hr:PA X es (yU X.K E k))(hs:aq (e::es) X.env=(false,aK e X.env)::aq es X.env:=by rfl):
  PA X (e::es) (yU X.K E λenv=>(f env).bind λx=>(k env).bind λxs=>.ok (x::xs)):=
 Hw (aX ha hr hs) λσ H Q ⟨g,env,os,r,m⟩=>⟨g,env,os,r,m.bind.mono λx _ m1 v H1 s1 i1=>⟨g,env,os,r.same s1,m1.bind.mono λxs _ m2 vs H2 s2 i2=>m2 (v::vs) H2 (s1.trans s2) (.cons (i1.same s2) i2)⟩⟩
def fit{α:Type}(xs:List α):R (List α):= @ite _ (xs.length<=aQ) (jK _) (.ok xs) (.bad)
theorem Good.fit {α:Type}{H₀:Hp}{xs:List α}{p:List α->Prop}(h:Good E H₀ (fit xs) p):xs.length<=aQ/\p xs:=by
 unfold DL.fit at h;split at h
 ·rename_i c
  exact⟨c,h⟩
 ·exact h.elim
def QV{K:aj}{g:Gh}{env:DE}{σ:St}{H H1:Hp}{os:List ae}{ds:List D}{vs:List V}{p:ae}(r:Rel K g env σ H os)(s1:bS H H1)(hp:H1 p=none)(i:IsL K (g.P os) H1 ds vs):
  bS H (upd H1 p (.lst vs))/\H p=none/\upd H1 p (.lst vs) p=aa (.lst vs)/\IsL K (g.P (p::os)) (upd H1 p (.lst vs)) ds vs:=
 ⟨s1.trans (d8 hp _),s1.free hp,aV,IsL.ext ((r.same s1).apart (d8 hp _) hp) _ _ i⟩
def iV{es:List ak}{f:DE->R (List D)}(h:PA X es (Hv X.K E f)):PE X (.List es pos) (tF X.K E λenv=>(f env).bind fit):=
 imp (A8 h) λσ H Q ⟨g,env,os,r,m⟩=>⟨g,env,os,r,m.bind.mono λds _ m1 vs H1 s1 i1=>by obtain⟨z,q⟩:=m1.fit;refine⟨by rw[i1.length];exact z,λp hp=>?_⟩;obtain⟨a1,a2,a3,a4⟩:=QV r s1 hp i1;exact q p vs _ a1 a2 a3 a4⟩
def zW{es:List ak}{x1}{f:DE->R (List D)}(h:PA X es (Hv X.K E f)):PE X (.Tuple es x1 pos) (tD X.K E λenv=>((f env).bind fit).bind λds=>.ok (.tup ds)):=
 imp (qK h) λσ H Q ⟨g,env,os,r,m⟩=>⟨g,env,os,r,m.bind.bind.mono λds _ m1 vs H1 s1 i1=>by obtain⟨z,q⟩:=m1.fit;refine⟨by rw[i1.length];exact z,λp hp=>?_⟩;exact q _ _ (s1.trans (d8 hp _)) ⟨p,vs,rfl,.inl ⟨(r.same s1).fresh hp,.inl aV⟩,i1.same (d8 hp _)⟩⟩
end
section
variable{X:Cx}{E:Str->Hp->Prop}{pos:Pos}
def Ux(K:aj):R2:=λx y H Q=>∃l b xs zs,x=.ref l/\y=.ref b/\lB K H l xs/\lB K H b zs/\xs.length+zs.length<=aQ/\∀p,H p=none->Q (.ref p) (upd H p (.lst (xs++zs)))
def Bv:qz X (nc .Add) (Ux X.K):=by
 intro pins s σ H x y v u Q I rx ry h;obtain⟨l,b,xs,zs,rfl,rfl,hH,hB,hz,q⟩:=h;cases rx;cases ry;obtain⟨its,r,p1,z1⟩:=I.list hH;obtain⟨its2,r2,p2,z2⟩:=I.list hB;have hl:=r.length;have hl2:=r2.length;obtain⟨o1,n1,e1,c1,d1,t1⟩:=p1;obtain⟨o2,n2,e2,c2,d2,t2⟩:=p2;obtain⟨oc,od,oda,Bc⟩:=o1;obtain⟨oc2,od2,Xz,XA⟩:=o2;have c1':oc=_:=c1;have d1':od=_:=d1;have QW:oda=_:=t1;have c2':oc2=_:=c2;have d2':od2=_:=d2;have t2':Xz=_:=t2;subst c1' d1' QW c2' d2' t2';have ea:its.toArray++its2.toArray=(its++its2).toArray:=by simp
 refine concat_meets ⟨_,e1,rfl⟩ ⟨_,e2,rfl⟩ noFill_list_add seq_list_add PySem.F.slot_list_add PySem.F.entry_list_add (PySem.F.args_list_add_2 _ _) (list_addW l b its.toArray its2.toArray n1 n2 none none Bc XA (by rw[dY,dY];omega)) ⟨e1,e2,?_⟩;rw[ea];exact⟨.ref _,_,I.Xk (t':=s.toks) (r.append r2) (by rw[bz];omega),rfl,q _ I.fresh⟩
def qA{a b:ak}{fa fb:DE->R (List D)}(ha:PE X a (tL X.K E fa))(hb:PE X b (tL X.K E fb)):PE X (.BinOp a .Add b pos) (tF X.K E λenv=>(fa env).bind λx=>(fb env).bind λy=>fit (x++y)):=
 imp (CA Bv ha hb) λσ H Q ⟨g,env,os,r,m⟩=>⟨g,env,os,r,m.bind.mono λx _ m1 a1 v1 H1 s1 q1 i1=>⟨g,env,os,r.same s1,m1.bind.mono λy _ m2 a2 v2 H2 s2 q2 i2=>by obtain⟨z,q⟩:=m2.fit;rw[bz]at z;refine⟨a1,a2,v1,v2,rfl,rfl,s2.seq q1,q2,by rw[i1.length,i2.length];exact z,λp hp=>?_⟩;obtain⟨b1,b2,b3,b4⟩:=QV r (s1.trans s2) hp ((i1.same s2).app i2);exact q p _ _ b1 b2 b3 b4⟩⟩
def tO(K:aj)(E:Str->Hp->Prop)(f:DE->R (Option Int)):TO:=λσ H Q=>∃g env os,Rel K g env σ H os/\Good E g.H₀ (f env) λo=>∀H',bS H H'->Q o H'
def Uy{e:Option ak}{t t':TO}(h:L2.PO X e t)(w:∀σ H Q,t' σ H Q->t σ H Q):L2.PO X e t':=λpins s σ H Q I q=>h pins s σ H Q I (w σ H Q q)
def zX:L2.PO X none (tO X.K E λ_=>.ok none):=Uy yj λσ H Q ⟨g,env,os,r,m⟩=>m H (bS.refl H)
def vX:D->R (Option Int)
 |.int i=>.ok (aa i)
 |_=>.bad
def kU{e:ak}{f:DE->R D}(h:PE X e (tB X.K E f)):L2.PO X (aa e) (tO X.K E λenv=>(f env).bind vX):=Uy (yk h) λσ H Q ⟨g,env,os,r,m⟩=>⟨g,env,os,r,m.bind.mono λd _ q v H' s i=>by
 cases d with
 |int k=>exact⟨k,i,q H' s⟩
 |non=>exact q.elim
 |bl _=>exact q.elim
 |lst _=>exact q.elim
 |str _=>exact q.elim
 |exc _=>exact q.elim
 |fn _=>exact q.elim
 |tup _=>exact q.elim⟩
def cut{α:Type}(xs:List α)(lo hi:Option Int):List α:=(xs.drop (HT.jy xs.length 0 lo)).take (HT.jy xs.length xs.length hi-HT.jy xs.length 0 lo)
theorem IsL.cut {K:aj}{P:ae->Prop}{H:Hp}{ds:List D}{vs:List V}(h:IsL K P H ds vs)(lo hi:Option Int):IsL K P H (DL.cut ds lo hi) (zR vs lo hi):=by unfold DL.cut zR;rw[h.length];exact(h.drop _).take _
def fU{e:ak}{lo hi:Option ak}{f:DE->R (List D)}{fl fh:DE->R (Option Int)}{p2:Pos}(he:PE X e (tL X.K E f))(hl:L2.PO X lo (tO X.K E fl))(hh:L2.PO X hi (tO X.K E fh)):
  PE X (.Subscript e (.Slice lo hi none p2) pos) (tF X.K E λenv=>(f env).bind λx=>(fl env).bind λl=>(fh env).bind λh=>.ok (cut x l h)):=
 imp (qL ym he hl hh) λσ H Q ⟨g,env,os,r,m⟩=>⟨g,env,os,r,m.bind.mono λx _ m1 a1 v1 H1 s1 q1 i1=>⟨g,env,os,r.same s1,m1.bind.mono λl _ m2 H2 s2=>⟨g,env,os,r.same (s1.trans s2),m2.bind.mono λh _ m3 H3 s3=>by refine⟨a1,v1,rfl,s3.seq (s2.seq q1),λp hp=>?_⟩;obtain⟨b1,b2,b3,b4⟩:=QV r (s1.trans (s2.trans s3)) hp (((i1.same s2).same s3).cut l h);exact m3 p _ _ b1 b2 b3 b4⟩⟩⟩
theorem IsL.nA {K:aj}{P:ae->Prop}{H:Hp}{ds:List D}{vs:List V}{i:Int}{d:D}(h:IsL K P H ds vs)(e:L2.nA ds i=aa d):∃v,L2.nA vs i=aa v/\Is K P H d v:=by
 unfold L2.nA at e⊢;rw[h.length];cases q:Hq ds.length i with
 |none=>rw[q]at e;cases e
 |some j=>
  rw[q]at e;exact h.get e
def mi:D->D->R D
 |.lst xs,.int i=>R.of (nA xs i)
 |.tup xs,.int i=>R.of (nA xs i)
 |_,_=>.bad
def oJ{a b:ak}{fa fb:DE->R D}(ha:PE X a (tD X.K E fa))(hb:PE X b (tB X.K E fb))(hs:Bl b:=by exact λ_ _=>rfl):PE X (.Subscript a b pos) (tD X.K E λenv=>(fa env).bind λx=>(fb env).bind λy=>mi x y):=
 imp (sV QO ha hb hs) λσ H Q ⟨g,env,os,r,m⟩=>⟨g,env,os,r,m.bind.mono λx _ m1 v H1 s1 i1=>⟨g,env,os,r.same s1,m1.bind.mono λy _ m2 w H2 s2 i2=>by
  unfold mi at m2;split at m2
  ·rename_i xs i _ _
   obtain⟨d,e,q⟩:=m2.of;have XC:=i1.same s2;obtain⟨a,vs,rfl,h1,h2⟩:=XC;obtain⟨z,e2,h3⟩:=IsL.nA h2 e;exact .inl ⟨a,vs,i,z,rfl,i2,h1.sq,e2,q z H2 (s1.trans s2) h3⟩
  ·rename_i xs i _ _
   obtain⟨d,e,q⟩:=m2.of;have XC:=i1.same s2;obtain⟨a,vs,rfl,h1,h2⟩:=XC;obtain⟨z,e2,h3⟩:=IsL.nA h2 e;exact .inr (.inl ⟨a,vs,i,z,rfl,i2,h1.sq,e2,q z H2 (s1.trans s2) h3⟩)
  ·exact m2.elim⟩⟩
def nX(xs:List D):D->R D
 |.int i=>R.of (nA xs i)
 |_=>.bad
def o8{a b:ak}{fa:DE->R (List D)}{fb:DE->R D}(ha:PE X a (tL X.K E fa))(hb:PE X b (tB X.K E fb))(hs:Bl b:=by exact λ_ _=>rfl):PE X (.Subscript a b pos) (tD X.K E λenv=>(fa env).bind λx=>(fb env).bind λy=>nX x y):=
 imp (sV Bm ha hb hs) λσ H Q ⟨g,env,os,r,m⟩=>⟨g,env,os,r,m.bind.mono λx _ m1 a1 v1 H1 s1 q1 i1=>⟨g,env,os,r.same s1,m1.bind.mono λy _ m2 w H2 s2 i2=>by
  unfold nX at m2;split at m2
  ·rename_i i _
   obtain⟨d,e,q⟩:=m2.of;obtain⟨z,e2,h3⟩:=(i1.same s2).nA e;exact⟨a1,v1,i,z,rfl,i2,s2.seq q1,e2,q z H2 (s1.trans s2) h3⟩
  ·exact m2.elim⟩⟩
def MO(X:Cx)(r:List V->Hp->VK->Prop)(k:List D->Option D):Prop:=∀ds d,k ds=aa d->∃z,toV d=aa z/\∀H vs (Q:VK),IsL X.K Tr H ds vs->Q z H->r vs H Q
def dz{id:String}{x:Str}{p:Pos}{e:ak}{es:List ak}{f:DE->R (List D)}{r:List V->Hp->VK->Prop}{k:List D->Option D}(hc:w6 X (.builtin id) r)(hk:MO X r k)(hm:X.mg x=none)(hv:fy x=aa (.builtin id))(ha:PA X (e::es) (yU X.K E f))
  (hg:Gl X x:=by rfl)(hn:x≠"__name__":=by decide)(hdb:(x==("__debug__":Str))=false:=by decide)
  (he:aq (e::es) X.env=(false,aK e X.env)::aq es X.env:=by rfl)(hpl:(bY pos (aq es X.env)).any (·.1)=false:=by rfl):PE X (.Call (.Name x p) (e::es) [] pos) (tD X.K E λenv=>(f env).bind λds=>R.of (k ds)):=
 imp (jH hc hg hm hv ha hn hdb he hpl) λσ H Q ⟨g,env,os,r,m⟩=>⟨g,env,os,r,m.bind.mono λds _ m1 vs H1 s1 i1=>by obtain⟨d,e,q⟩:=m1.of;obtain⟨z,hz,hk⟩:=hk ds d e;exact hk H1 vs Q i1 (q z H1 s1 (Is.sc hz))⟩
def IsL.Et {K:aj}{P:ae->Prop}{H:Hp}{d:D}{vs:List V}(h:IsL K P H [d] vs):∃v,vs=[v]/\Is K P H d v:=by obtain⟨v,r,rfl,p,q⟩:=h;have q':r=[]:=q;subst q';exact⟨v,rfl,p⟩
def IsL.Uz {K:aj}{P:ae->Prop}{H:Hp}{d d2:D}{vs:List V}(h:IsL K P H [d,d2] vs):∃v w,vs=[v,w]/\Is K P H d v/\Is K P H d2 w:=by obtain⟨v,r,rfl,p,q⟩:=h;obtain⟨w,rfl,p2⟩:=IsL.Et q;exact⟨v,w,rfl,p,p2⟩
def iI:List D->Option D
 |[.lst xs]=>aa (.int xs.length)
 |[.tup xs]=>aa (.int xs.length)
 |[.str x]=> @ite _ (x.length<=aQ) (jK _) (aa (.int x.length)) (none)
 |_=>none
def cL:MO X (λxs H Q=>∃x n,xs=[x]/\Uc X.K x H n/\Q (.int n) H) iI:=λds d e=>by
 unfold iI at e;split at e
 ·rename_i xs
  cases e;refine⟨_,rfl,λH vs Q i q=>?_⟩;obtain⟨v,rfl,a,ws,rfl,h1,h2⟩:=IsL.Et i;exact⟨_,_,rfl,.inl ⟨ws,h1.sq,(IsL.length h2).symm⟩,q⟩
 ·rename_i xs
  cases e;refine⟨_,rfl,λH vs Q i q=>?_⟩;obtain⟨v,rfl,a,ws,rfl,h1,h2⟩:=IsL.Et i;exact⟨_,_,rfl,.inr ⟨ws,h1.sq,(IsL.length h2).symm⟩,q⟩
 ·split at e
  ·rename_i x c
   cases e;refine⟨_,rfl,λH vs Q i q=>?_⟩;obtain⟨v,rfl,i2⟩:=IsL.Et i;have i':v=.str x:=i2;subst i';exact⟨_,_,rfl,⟨c,rfl⟩,q⟩
  ·cases e
 ·cases e
def tW:List D->Option D
 |[.int i]=>aa (.int (if i<0 then-i else i))
 |_=>none
def je:MO X (λxs H Q=>∃i,xs=[.int i]/\Q (.int (if i<0 then-i else i)) H) tW:=λds d e=>by
 unfold tW at e;split at e
 ·rename_i i
  cases e;refine⟨_,rfl,λH vs Q h q=>?_⟩;obtain⟨v,rfl,h1⟩:=IsL.Et h;have h':v=.int i:=h1;subst h';exact⟨i,rfl,q⟩
 ·cases e
def Gi:List D->Option D
 |[.int i,.int j]=>aa (.int (if j>i then j else i))
 |_=>none
def Jh:MO X (λxs H Q=>∃i j,xs=[.int i,.int j]/\Q (.int (if j>i then j else i)) H) Gi:=λds d e=>by
 unfold Gi at e;split at e
 ·rename_i i j
  cases e;refine⟨_,rfl,λH vs Q h q=>?_⟩;obtain⟨v,w,rfl,h1,h2⟩:=IsL.Uz h;have h':v=.int i:=h1;have Eu:w=.int j:=h2;subst h' Eu;exact⟨i,j,rfl,q⟩
 ·cases e
def Gj(K:aj)(xc:Str->ah)(m:List D->R D):Sp:=λvs H Q E=>∃P ds,IsL K P H ds vs/\(match m ds with
 |.ok d=>∀v H',bS H H'->Is K (λa=>P a\/H a=none) H' d v->Q v H'
 |.err c=>∀H',bS H H'->E (xc c) none H'
 |.bad=>False)
noncomputable def QX(K:aj)(xc:Str->ah)(m:List D->R (List D)):Sp:=λvs H Q E=>∃P ds,IsL K P H ds vs/\(match m ds with
 |.ok xs=>∀a ws H',bS H H'->H a=none->H' a=aa (.lst ws)->IsL K (λb=>(P b\/H b=none)/\b≠a) H' xs ws->Q (.ref a) H'
 |.err c=>∀H',bS H H'->E (xc c) none H'
 |.bad=>False)
def EX(xc:Str->ah)(E:Str->Hp->Prop):XK:=λc _ H'=>∃n,c=xc n/\E n H'
def sW{E:XK}:Passes lL X E:=λ_ _ _ _ _ _ _ h=>h.elim
variable{CX:Hl}{k:Nat}{fa:ae}{fd:aL}{ps:List Str}{xc:Str->ah}{x:Str}{p:Pos}{e:ak}{es:List ak}{f:DE->R (List D)}
def fD{m:List D->R D}(F:fz X.prog X.w X.K X.mg X.base CX k fa fd ps (Gj X.K xc m))(hm:X.mg x=aa (.ref fa))(hk:jF X.K (.ref fa)=true)(hb:Binds X.K fd ps [])(hr:bB k X.A)(hx:Passes CX X (EX xc E))
  (ha:PA X (e::es) (Hv X.K E f))(hg:Gl X x:=by rfl)(hdb:(x==("__debug__":Str))=false:=by decide)(he:aq (e::es) X.env=(false,aK e X.env)::aq es X.env:=by rfl)(hpl:(bY pos (aq es X.env)).any (·.1)=false:=by rfl):
  PE X (.Call (.Name x p) (e::es) [] pos) (tD X.K E λenv=>(f env).bind m):=
 imp (kC F hr hg hm hk hb .nil hx ha hdb he hpl) λσ H Q ⟨g,env,os,r,q⟩=>⟨g,env,os,r,q.bind.mono λds _ q1 vs H1 s1 i1=>by
  show Gj X.K xc m (vs++[]) H1 Q _;rw[jd];refine⟨g.P os,ds,i1,?_⟩;cases em:m ds with
  |ok d=>
   rw[em]at q1;intro v H' s' i';exact q1 v H' (s1.trans s') (Is.ext ⟨λa o pa _=>pa.elim (λz=>z) λz=>(r.same s1).fresh z,λ_ _ _ z=>z⟩ _ _ i')
  |err c=>
   rw[em]at q1;intro H' s';exact⟨c,rfl,q1 H' (r.ext.trans (s1.trans s'))⟩
  |bad=>rw[em]at q1;exact q1⟩
def fB{m:List D->R D}(F:fz X.prog X.w X.K X.mg X.base CX k fa fd ps (Gj X.K xc m))(hsc:∀ds d,m ds=.ok d->∃z,toV d=aa z)(hm:X.mg x=aa (.ref fa))(hk:jF X.K (.ref fa)=true)(hb:Binds X.K fd ps [])(hr:bB k X.A)(hx:Passes CX X (EX xc E))
  (ha:PA X (e::es) (yU X.K E f))(hg:Gl X x:=by rfl)(hdb:(x==("__debug__":Str))=false:=by decide)(he:aq (e::es) X.env=(false,aK e X.env)::aq es X.env:=by rfl)(hpl:(bY pos (aq es X.env)).any (·.1)=false:=by rfl):
  PE X (.Call (.Name x p) (e::es) [] pos) (tD X.K E λenv=>(f env).bind m):=
 imp (kC F hr hg hm hk hb .nil hx ha hdb he hpl) λσ H Q ⟨g,env,os,r,q⟩=>⟨g,env,os,r,q.bind.mono λds _ q1 vs H1 s1 i1=>by
  show Gj X.K xc m (vs++[]) H1 Q _;rw[jd];refine⟨Tr,ds,i1,?_⟩;cases em:m ds with
  |ok d=>
   rw[em]at q1;intro v H' s' i';obtain⟨z,hz⟩:=hsc ds d em;have e2:=Is.Ur hz i';subst e2;exact q1 _ H' (s1.trans s') (Is.sc hz)
  |err c=>
   rw[em]at q1;intro H' s';exact⟨c,rfl,q1 H' (r.ext.trans (s1.trans s'))⟩
  |bad=>rw[em]at q1;exact q1⟩
def fF{m:List D->R (List D)}(F:fz X.prog X.w X.K X.mg X.base CX k fa fd ps (QX X.K xc m))(hm:X.mg x=aa (.ref fa))(hk:jF X.K (.ref fa)=true)(hb:Binds X.K fd ps [])(hr:bB k X.A)(hx:Passes CX X (EX xc E))
  (ha:PA X (e::es) (Hv X.K E f))(hg:Gl X x:=by rfl)(hdb:(x==("__debug__":Str))=false:=by decide)(he:aq (e::es) X.env=(false,aK e X.env)::aq es X.env:=by rfl)(hpl:(bY pos (aq es X.env)).any (·.1)=false:=by rfl):
  PE X (.Call (.Name x p) (e::es) [] pos) (tF X.K E λenv=>(f env).bind m):=
 imp (kC F hr hg hm hk hb .nil hx ha hdb he hpl) λσ H Q ⟨g,env,os,r,q⟩=>⟨g,env,os,r,q.bind.mono λds _ q1 vs H1 s1 i1=>by
  show QX X.K xc m (vs++[]) H1 Q _;rw[jd];refine⟨g.P os,ds,i1,?_⟩;cases em:m ds with
  |ok d=>
   rw[em]at q1;intro a ws H' s' hn hH i';exact q1 a ws H' (s1.trans s') (s1.free hn) hH (IsL.ext ⟨λb o pb _=>by have z:g.P os b:=pb.1.elim (λz=>z) λz=>(r.same s1).fresh z;exact⟨z.1,λhm=>(bR.mp hm).elim pb.2 z.2⟩,λ_ _ _ z=>z⟩ _ _ i')
  |err c=>
   rw[em]at q1;intro H' s';exact⟨c,rfl,q1 H' (r.ext.trans (s1.trans s'))⟩
  |bad=>rw[em]at q1;exact q1⟩
end
def bF(r:R Out)(k:DE->R Out):R Out:=r.bind λo=>match o with
 |.nx e=>k e
 |o=>.ok o
noncomputable def iB(b:D->DE->R Out):List D->DE->R Out
 |[],e=>.ok (.nx e)
 |x::xs,e=>(b x e).bind λo=>match o with
  |.nx e'=>iB b xs e'
  |.ct e'=>iB b xs e'
  |.bk e'=>.ok (.nx e')
  |.rt d=>.ok (.rt d)
  |.xm ys=>.ok (.xm ys)
  |.Iu ys=>.ok (.Iu ys)
  |.vM d e=>.ok (.vM d e)
  |.Ip ys=>.ok (.Ip ys)
  |.Ir ys=>.ok (.Ir ys)
  |.Io ys=>.ok (.Io ys)
section
variable{X:Cx}{E:Str->Hp->Prop}{pos:Pos}
def cM:qG X [] (tS X.K E λe=>.ok (.nx e)):=O6 uG λDe σ H ⟨g,env,os,r,m⟩=>m σ H os r (.refl H os)
def aN{st:aB}{rest:List aB}{f k:DE->R Out}(h1:PS X st (tS X.K E f))(h2:qG X rest (tS X.K E k)):qG X (st::rest) (tS X.K E λe=>bF (f e) k):=
 O6 (dJ h1 h2) λDe σ H ⟨g,env,os,r,m⟩=>⟨g,env,os,r,(show Good E g.H₀ ((f env).bind _) _ from m).bind.mono λo _ q=>by
  cases o with
  |nx e'=>exact λσ' H' dS r' z=>⟨g,e',dS,r',Good.mono (show Good E g.H₀ (k e') _ from q) λo _ q=>gD.step z q⟩
  |bk e'=>exact q
  |ct e'=>exact q
  |rt d=>exact q
  |xm xs=>exact q
  |Iu xs=>exact q
  |vM d e=>exact q
  |Ip xs=>exact q
  |Ir xs=>exact q
  |Io xs=>exact q⟩
def bG{st:aB}{f:DE->R Out}(h1:PS X st (tS X.K E f)):qG X [st] (tS X.K E f):=gr h1
def O7{e:ak}{f:DE->R D}(he:PE X e (tB X.K E f))(hs:jB e none pos.line X.env=bJ false:=by rfl):PS X (.Expr e pos) (tS X.K E λenv=>(f env).bind λ_=>.ok (.nx env)):=
 uT (lI he hs) λDe σ H ⟨g,env,os,r,m⟩=>⟨g,env,os,r,m.bind.mono λd _ q v H' s i=>q σ H' os (r.same s) (.same s os)⟩
def UA{g:Gh}{os:List ae}{K:aj}{H:Hp}{d:D}{v:V}(h:Is K (g.P os) H d v):Is K (g.P []) H d v:=Is.ext ⟨λ_ _ p _=>⟨p.1,by simp⟩,λ_ _ _ q=>q⟩ _ _ h
def cG{e:ak}{f:DE->R D}(he:PE X e (tD X.K E f)):PS X (.Return (aa e) pos) (tS X.K E λenv=>(f env).bind λd=>.ok (.rt d)):=
 uT (l9 he) λDe σ H ⟨g,env,os,r,m⟩=>⟨g,env,os,r,m.bind.mono λd _ q v H' s i=>q v H' (r.ext.trans s) (UA i)⟩
def uW{e:ak}{f:DE->R (List D)}(he:PE X e (tF X.K E f)):PS X (.Return (aa e) pos) (tS X.K E λenv=>(f env).bind λd=>.ok (.xm d)):=
 uT (l9 he) λDe σ H ⟨g,env,os,r,m⟩=>⟨g,env,os,r,m.bind.mono λxs _ q a vs H' s hn hH i=>
  q a vs H' (r.ext.trans s) (r.ext.free hn) hH (IsL.ext ⟨λb o p _=>⟨p.1,λz=>p.2 (by simp at z;simp[z])⟩,λ_ _ _ q=>q⟩ _ _ i)⟩
def ownAt(i:Nat)(env:DE):R (List D):=match env[i]? with
 |some (.own xs)=>.ok xs
 |_=>.bad
theorem Good.own {H₀:Hp}{i:Nat}{env:DE}{p:List D->Prop}(h:Good E H₀ (ownAt i env) p):∃xs,env[i]?=aa (.own xs)/\p xs:=by
 unfold ownAt at h;split at h
 ·rename_i xs e
  exact⟨xs,e,h⟩
 ·exact h.elim
def iJ{c:ak}{a b:List aB}{fc:DE->R Bool}{fa fb:DE->R Out}(hc:PT X c (tT X.K E fc))(ha:qG X a (tS X.K E fa))(hb:qG X b (tS X.K E fb)):PS X (.If c a b pos) (tS X.K E λenv=>(fc env).bind λt=>if t=true then fa env else fb env):=
 uT (wZ hc ha hb) λDe σ H ⟨g,env,os,r,m⟩=>⟨g,env,os,r,m.bind.mono λt _ q H' s=>by
  cases t with
  |true=>
   rw[if_pos rfl];exact⟨g,env,os,r.same s,Good.mono (show Good E g.H₀ (fa env) _ from q) λo _ q2=>gD.step (.same s os) q2⟩
  |false=>
   rw[if_neg gu];exact⟨g,env,os,r.same s,Good.mono (show Good E g.H₀ (fb env) _ from q) λo _ q2=>gD.step (.same s os) q2⟩⟩
def iK(i:Nat){x:Str}{e:ak}{f:DE->R D}{pos':Pos}(he:PE X e (tD X.K E f))(hN:X.N.Nodup)(hi:X.N[i]?=aa x:=by rfl)(hx:Loc X.env.scope x:=by first|exact cD rfl|exact b9 rfl)(hs:jB e (aa (.Name x pos')) pos.line X.env=bJ false:=by rfl)
  (hf:X.fn x=true\/X.env.scope.names.lookup x=aa .local:=by first|exact .inl rfl|exact .inr rfl|assumption):PS X (.Assign [.Name x pos'] e pos) (tS X.K E λenv=>(f env).bind λd=>.ok (.nx (env.set i (.val d)))):=
 uT (qI hN hi hx he hs hf) λDe σ H ⟨g,env,os,r,m⟩=>⟨g,env,os,r,m.bind.mono λd _ q v H' s h=>q _ H' os ((r.same s).set i h) (.same s os)⟩
def lZ.new {H H':Hp}{os:List ae}{a:ae}(s:bS H H')(hn:H a=none):lZ H os H' (a::os):=
 ⟨λb hb=>(bR.mp hb).elim (λz=>.inr (by rw[z];exact hn)) .inl,λ_ h=>s.free h,λ_ _ _ h=>s _ _ h⟩
def UB(i:Nat){x:Str}{e:ak}{f:DE->R (List D)}{pos':Pos}(he:PE X e (tF X.K E f))(hN:X.N.Nodup)(hi:X.N[i]?=aa x:=by rfl)(hx:Loc X.env.scope x:=by first|exact cD rfl|exact b9 rfl)(hs:jB e (aa (.Name x pos')) pos.line X.env=bJ false:=by rfl)
  (hf:X.fn x=true\/X.env.scope.names.lookup x=aa .local:=by first|exact .inl rfl|exact .inr rfl|assumption):PS X (.Assign [.Name x pos'] e pos) (tS X.K E λenv=>(f env).bind λd=>.ok (.nx (env.set i (.own d)))):=
 uT (qI hN hi hx he hs hf) λDe σ H ⟨g,env,os,r,m⟩=>⟨g,env,os,r,m.bind.mono λd _ q a vs H' s hn hH h=>q _ H' (a::os) (r.Xq s i hn hH h) (.new s hn)⟩
def lZ.mut {H:Hp}{os:List ae}{a:ae}{o:HO}(ha:a∈os):lZ H os (upd H a o) os:=
 ⟨λb hb=>.inl hb,λb h=>by
  by_cases z:b=a
  ·subst z;rw[aV]at h;cases h
  ·rw[aM z]at h;exact h,λb u hb h=>by rw[aM (λz=>hb (by rw[z];exact ha))];exact h⟩
def zM(i:Nat)(env:DE):DE:=match env[i]? with
 |some (.own xs)=>env.set i (.val (.lst xs))
 |_=>env
def XD(i:Nat){x:Str}{e:ak}{f:DE->R D}{p apos fR:Pos}(he:PE X e (tD X.K E f))(hN:X.N[i]?=aa x:=by rfl)(hv:D5 X.env.scope x:=by first|exact cD rfl|exact b9 (cD rfl)|exact b9 (b9 rfl))(hd:(x==("__debug__":Str))=false:=by decide)
  (hcd:(x==("__classdict__":Str))=false:=by decide)
  (hbase:uI (.Name x p) "append" X.env (aK (.Name x p) X.env)=aK (.Name x p) X.env:=by rfl)
  (hfew:((bY fR (aq [e] X.env)).all (λx=> !x.1)&&(nv fR (nz [] X.env)).all (λx=>x.1.isSome)
   &&decide ([e].length+([]:List uR).length+(if([]:List uR).isEmpty then 0 else 1)<30))=true:=by rfl)
  (hline:(apos.endLine==fR.line)=true:=by rfl)(hst:aq [e] X.env=(false,aK e X.env)::aq [] X.env:=by rfl)(hplain:(bY fR (aq [] X.env)).any (·.1)=false:=by rfl)
  (hs:jB (.Call (.Attribute (.Name x p) "append" apos) [e] [] fR) none pos.line X.env=bJ false:=by rfl):
  PS X (.Expr (.Call (.Attribute (.Name x p) "append" apos) [e] [] fR) pos) (tS X.K E λenv=>(ownAt i env).bind λxs=>(f env).bind λd=> @ite _ (xs.length<aQ) (jK _) (.ok (.nx (env.set i (.own (xs++[d]))))) (.bad)):=
 uT (lI (Gd yr Bw Bx oG (nU hN hv hd hcd) (aX he cX hst) hbase hfew hline hst hplain) hs) λDe σ H ⟨g,env,os,r,m⟩=>by
  obtain⟨xs,e,m1⟩:=m.bind.own;obtain⟨a,vs,h1,h2,h3,h4⟩:=r.own i xs e;refine⟨.ref a,h1,.inl ⟨rfl,vs,lB.of h3⟩,g,env,os,r,m1.bind.mono λd _ q v H' s hi=>?_⟩;split at q
  ·rename_i c
   refine⟨a,vs,v,rfl,rfl,s _ _ h3,by rw[h4.length];exact c,?_⟩;exact q σ _ os ((r.same s).mut e h1 h2 ((h4.same s).app (.one hi))) ((lZ.same s os).trans (.mut h2))
  ·exact q.elim
def Yl(K:aj)(P:ae->Prop)(J:It)(H:Hp)(xs:List D):Prop:=
 ∀(i:Nat)(H':Hp)(P':ae->Prop),Ext P P' H H'->(∀d,xs[i]?=aa d->J.go i H'/\∀x QY,J.Wa i H' x QY->bS H' QY/\Is K (λa=>P' a\/H' a=none) QY d x)/\(xs.length=i->J.stop i H')
def tI(K:aj)(E:Str->Hp->Prop)(f:DE->R (List D)):TI:=λσ H Rr=>∃g env os,Rel K g env σ H os/\Good E g.H₀ (f env) λxs=>∀J H1,bS H H1->Yl K (g.P os) J H1 xs->Rr J H1
def MP{tg e:ak}{t t':TI}(h:PI X tg e t)(w:∀σ H Q,t' σ H Q->t σ H Q):PI X tg e t':=λpins s σ H Q I q=>h pins s σ H Q I (w σ H Q q)
def Zx(K:aj)(P:ae->Prop)(J:It)(H:Hp)(xs:List D):Prop:=
 ∀(i:Nat)(H':Hp)(P':ae->Prop),bS H H'->Ext P P' H H'->(∀d,xs[i]?=aa d->J.go i H'/\∀x QY,J.Wa i H' x QY->bS H' QY/\Is K (λa=>P' a\/H' a=none) QY d x)/\(xs.length=i->J.stop i H')
def XE(K:aj)(E:Str->Hp->Prop)(f:DE->R (List D)):TI:=λσ H Rr=>∃g env os,Rel K g env σ H os/\Good E g.H₀ (f env) λxs=>∀J H1,bS H H1->Zx K (g.P os) J H1 xs->Rr J H1
def XF{tg e:ak}{f:DE->R (List D)}(h:PI X tg e (tI X.K E f)):PI X tg e (XE X.K E f):=MP h λσ H Q ⟨g,env,os,r,m⟩=>⟨g,env,os,r,m.mono λxs _ q J H1 s1 yl=>q J H1 s1 λi H' P' _ ex=>yl i H' P' ex⟩
def iL{tg e:ak}{f:DE->R D}(he:PE X e (tD X.K E f)):PI X tg e (tI X.K E λenv=>(f env).bind Jf):=
 MP (LS he) λσ H Q ⟨g,env,os,r,m⟩=>⟨g,env,os,r,m.bind.mono λd _ q v H' s i=>by
  cases d with
  |lst xs=>
   obtain⟨a,vs,rfl,h1,h2⟩:=i;refine⟨a,rfl,⟨vs,h1.sq⟩,q _ H' s λj H2 P' ex=>⟨λd hd=>?_,λhj=>?_⟩⟩
   ·obtain⟨x,hx,hi⟩:=(IsL.ext ex _ _ h2).get hd
    refine⟨⟨vs,x,(h1.ext ex).sq,hx⟩,λy H3 hy=>?_⟩;obtain⟨rfl,hy⟩:=hy;have e2:=hy vs (h1.ext ex).sq;rw[hx]at e2;cases e2;exact⟨bS.refl _,Is.ext ⟨λ_ _ p _=>.inl p,λ_ _ _ z=>z⟩ _ _ hi⟩
   ·exact⟨vs,(h1.ext ex).sq,by rw[IsL.length h2];exact pI hj⟩
  |non=>exact q.elim
  |bl _=>exact q.elim
  |int _=>exact q.elim
  |str _=>exact q.elim
  |exc _=>exact q.elim
  |fn _=>exact q.elim
  |tup _=>exact q.elim⟩
def CJ(lo:Int)(n:Nat):List D:=(eR n).map λi=>.int (lo+(i:Nat))
def Hz:List D->R (List D)
 |[.int j]=> @ite _ (-(2^62)<=j/\j<2^62) (jK _) (.ok (CJ 0 j.toNat)) (.bad)
 |_=>.bad
def QZ{K:aj}{P:ae->Prop}{H:Hp}(lo:Int)(n:Nat):Yl K P (Wb lo n) H (CJ lo n):=λi H' P' ex=>⟨λd hd=>by
 unfold CJ at hd;rw[dZ]at hd;have hi:i<n:=by
  cases q:(eR n)[i]? with
  |none=>rw[q]at hd;cases hd
  |some j=>simpa using(dX.mp q).1
 rw[MQ hi]at hd;cases hd;refine⟨hi,λx H2 hy=>?_⟩;obtain⟨rfl,rfl⟩:=hy;exact⟨bS.refl _,rfl⟩,λh=>by
 unfold CJ at h;exact pI (by simpa using h)⟩
def XG{tg a:ak}{p:Pos}{f:DE->R (List D)}(hm:X.mg "range"=none)(ha:PA X [a] (yU X.K E f))(hg:Gl X "range":=by rfl)(hs:aq [a] X.env=[(false,aK a X.env)]:=by rfl):
  PI X tg (.Call (.Name "range" p) [a] [] pos) (tI X.K E λenv=>(f env).bind Hz):=
 MP (Hg hg hm ha hs) λσ H Q ⟨g,env,os,r,m⟩=>⟨g,env,os,r,m.bind.mono λds _ q vs H' s i=>by
  unfold Hz at q;split at q
  ·rename_i j _
   split at q
   ·rename_i c
    obtain⟨v,rfl,h1⟩:=IsL.Et i;have h':v=.int j:=h1;subst h';exact⟨j,rfl,c.1,c.2,q _ H' s (QZ 0 _)⟩
   ·exact q.elim
  ·exact q.elim⟩
def tG(K:aj)(E:Str->Hp->Prop)(b:D->DE->R DE):TG:=λv σ H Q=>∃g env os d,Rel K g env σ H os/\Is K (g.P os) H d v/\Good E g.H₀ (b d env) λe'=>∀σ',Rel K g e' σ' H os->Q σ' H
def O8(K:aj)(E:Str->Hp->Prop)(b:List D->DE->R DE):LL:=λvs σ H Q=>∃g env os ds,Rel K g env σ H os/\IsL K (g.P os) H ds vs/\Good E g.H₀ (b ds env) λe'=>∀σ',Rel K g e' σ' H os->Q σ' H
def UC{e:ak}{t t':TG}(h:PG X e t)(w:∀v σ H Q,t' v σ H Q->t v σ H Q):PG X e t':=λpins s σ H v u Q I r q=>h pins s σ H v u Q I r (w v σ H Q q)
def O9{e:List ak}{t t':LL}(h:FG X e t)(w:∀v σ H Q,t' v σ H Q->t v σ H Q):FG X e t':=λpins s σ H v u Q I r q=>h pins s σ H v u Q I r (w v σ H Q q)
def gN(i:Nat){x:Str}(hN:X.N.Nodup)(hi:X.N[i]?=aa x:=by rfl)(hx:Loc X.env.scope x:=by first|exact cD rfl|exact b9 rfl)(hf:X.fn x=true\/X.env.scope.names.lookup x=aa .local:=by first|exact .inl rfl|exact .inr rfl|assumption):
  PG X (.Name x pos) (tG X.K E λd env=>.ok (env.set i (.val d))):=UC (LM hN hi hx hf) λv σ H Q ⟨g,env,os,d,r,h,m⟩=>m _ (r.set i h)
def UD:FG X [] (O8 X.K E λds env=>match ds with
  |[]=>.ok env
  |_=>.bad):=O9 LN λvs σ H Q ⟨g,env,os,ds,r,h,m⟩=>by
 cases ds with
 |nil=>exact⟨h,m σ r⟩
 |cons _ _=>exact m.elim
def Q0{e:ak}{es:List ak}{b:D->DE->R DE}{k:List D->DE->R DE}(h1:PG X e (tG X.K E b))(h2:FG X es (O8 X.K E k))(hs:(jb (e::es) X.env).map (·.2)=xX e X.env::(jb es X.env).map (·.2):=by rfl):
  FG X (e::es) (O8 X.K E λds env=>match ds with
   |d::r=>(b d env).bind λe'=>k r e'
   |_=>.bad):=O9 (IK h1 h2 hs) λvs σ H Q ⟨g,env,os,ds,r,h,m⟩=>by
 cases ds with
 |nil=>exact m.elim
 |cons d rest=>
  obtain⟨v,vr,rfl,p,q⟩:=h;have m':Good E g.H₀ ((b d env).bind λe'=>k rest e') _:=m;exact⟨v,vr,rfl,g,env,os,d,r,p,m'.bind.mono λe' _ m2 σ' r'=>⟨g,e',os,rest,r',q,m2⟩⟩
def gT{es:List ak}{kk:Nat}{b:List D->DE->R DE}{n:Nat}(hc:X.calm=true)(h:FG X es (O8 X.K E b))(hn:(jb es X.env).length=n:=by rfl)(hst:(jb es X.env).findIdx? (·.1)=none:=by rfl):
  PG X (.Tuple es kk pos) (tG X.K E λd env=>match d with
   |.tup ds=>if ds.length=n then b ds env else .bad
   |_=>.bad):=UC (QB hc h hn hst) λv σ H Q ⟨g,env,os,d,r,h,m⟩=>by
 cases d with
 |tup ds=>
  obtain⟨a,vs,rfl,h1,h2⟩:=h;have m':Good E g.H₀ (if ds.length=n then b ds env else .bad) _:=m;split at m'
  ·rename_i c
   exact⟨a,vs,rfl,h1.sq,by rw[IsL.length h2];exact c,g,env,os,ds,r,h2,m'⟩
  ·exact m'.elim
 |non=>exact m.elim
 |bl _=>exact m.elim
 |int _=>exact m.elim
 |str _=>exact m.elim
 |lst _=>exact m.elim
 |exc _=>exact m.elim
 |fn _=>exact m.elim
def By{tg iter:ak}{body:List aB}{f:DE->R (List D)}{b:D->DE->R DE}{k:DE->R Out}(hp:AZ (aG X.prog X.w) X.A X.env X.xe)(hc:X.calm=true)(hi:PI X tg iter (tI X.K E f))(hg:PG X tg (tG X.K E b))(hb:qG X body (tS X.K E k))
  (hs:∀x,A0 iter X.env x=bJ x:=by intro _;rfl):PS X (.For tg iter body [] pos) (tS X.K E λenv=>(f env).bind λxs=>iB (λd e=>(b d e).bind k) xs env):=
 uT (QD hp hc hi hg hb hs) λDe σ H ⟨g,env,os,r,m⟩=>⟨g,env,os,r,m.bind.mono λxs _ m1 J H1 s1 yl=>by
  refine⟨λi n σ' H'=>n=xs.length-i/\i<=xs.length/\∃zT dS,Rel X.K g zT σ' H' dS/\lZ H1 os H' dS/\Good E g.H₀ (iB (λd e=>(b d e).bind k) (xs.drop i) zT) (gD X.K g H' dS De),
   ⟨xs.length,by simp,yb _,env,os,r.same s1,.refl _ _,by rw[Gk];exact m1.mono λo _ q=>gD.step (.same s1 os) q⟩,?_⟩
  rintro i n σ' H' ⟨rfl,hi,zT,dS,r',st,m2⟩;obtain⟨y1,y2⟩:=yl i H' (g.P dS) st.ext
  by_cases hlt:i<xs.length
  ·have hx:xs[i]?=aa xs[i]:=cQ hlt
   obtain⟨go,y3⟩:=y1 _ hx;rw[yt hlt]at m2;refine .inr ⟨go,λσ2 H2=>∃UE Iv,Rel X.K g UE σ2 H2 Iv/\lZ H1 os H2 Iv/\Good E g.H₀ (iB (λd e=>(b d e).bind k) (xs.drop (i+1)) UE) (gD X.K g H2 Iv De),λσ2 H2 ⟨e2,o2,r2,t2,g2⟩=>⟨xs.length-(i+1),by omega,rfl,hlt,e2,o2,r2,t2,g2⟩,λx H2 hy=>?_⟩;obtain⟨s2,hx2⟩:=y3 x H2 hy;have r2:=r'.same s2;have ix:Is X.K (g.P dS) H2 xs[i] x:=Is.ext ⟨λa o p _=>p.elim (λz=>z) λz=>r'.fresh z,λ_ _ _ z=>z⟩ _ _ hx2;have m3:Good E g.H₀ (((b xs[i] zT).bind k).bind _) _:=m2;refine⟨g,zT,dS,xs[i],r2,ix,m3.bind.bind.mono λe3 _ m4 σ3 r3=>⟨g,e3,dS,r3,Good.mono m4 λo _ q=>?_⟩⟩;have QE:=st.trans (lZ.same s2 dS);cases o with
   |nx e4=>exact λσ4 H4 Q1 r4 z=>⟨e4,Q1,r4,QE.trans z,Good.mono (show Good E g.H₀ (iB _ _ e4) _ from q) λo _ q=>gD.step ((lZ.same s2 dS).trans z) q⟩
   |ct e4=>exact λσ4 H4 Q1 r4 z=>⟨e4,Q1,r4,QE.trans z,Good.mono (show Good E g.H₀ (iB _ _ e4) _ from q) λo _ q=>gD.step ((lZ.same s2 dS).trans z) q⟩
   |bk e4=>exact λσ4 H4 Q1 r4 z=>(show gD X.K g H' dS De (.nx e4)from q) σ4 H4 Q1 r4 ((lZ.same s2 dS).trans z)
   |rt d=>exact q
   |xm ys=>exact q
   |Iu ys=>exact q
   |vM d e=>exact λv σ4 H4 Q1 r4 z i4=>(show gD X.K g H' dS De (.vM d e)from q) v σ4 H4 Q1 r4 ((lZ.same s2 dS).trans z) i4
   |Ip ys=>exact q
   |Ir ys=>exact q
   |Io ys=>exact q
  ·have e:i=xs.length:=by omega
   subst e;rw[MR]at m2;exact .inl ⟨y2 rfl,(show gD X.K g H' dS De (.nx zT)from m2) σ' H' dS r' (.refl _ _)⟩⟩
end
def ao(n:Nat)(ds:List D):DE:=ds.map .val++gx (n-ds.length) .no
def rV{K:aj}{N:List Str}{P:ae->Prop}{H:Hp}{ds:List D}{vs:List V}(h:IsL K P H ds vs):Rel K ⟨P,H⟩ (ao N.length ds) (L2.start N vs) H []:=by
 have hl:=h.length;refine⟨by simp[ao,L2.start,hl],bS.refl H,λi d e=>?_,λi xs e=>?_,λi j xs ys a e=>?_,(λa ha=>nomatch ha),λi v e=>?_,En.none λi v e=>?_⟩
 ·unfold ao at e
  by_cases hi:i<ds.length
  ·rw[ir (by simpa using hi),dZ,cQ hi]at e
   have e':Sl.val ds[i]=Sl.val d:=fj.inj e;cases e';obtain⟨v,h1,h2⟩:=h.get (cQ hi);refine⟨v,?_,Is.ext ⟨λa o p _=>⟨.inl p,by simp⟩,λ_ _ _ z=>z⟩ _ _ h2⟩;unfold L2.start;rw[ir (by simp;omega),dZ,h1]<;>rfl
  ·rw[gF (by simp;omega)]at e
   have:=kD (n:=N.length-ds.length) (a:=Sl.no) (i:=i-(ds.map Sl.val).length);rw[this]at e;split at e<;>cases e
 ·exfalso
  unfold ao at e
  by_cases hi:i<ds.length
  ·rw[ir (by simpa using hi),dZ,cQ hi]at e
   cases e
  ·rw[gF (by simp;omega)]at e
   have:=kD (n:=N.length-ds.length) (a:=Sl.no) (i:=i-(ds.map Sl.val).length);rw[this]at e;split at e<;>cases e
 ·exfalso
  unfold ao at e
  by_cases hi:i<ds.length
  ·rw[ir (by simpa using hi),dZ,cQ hi]at e
   cases e
  ·rw[gF (by simp;omega)]at e
   have:=kD (n:=N.length-ds.length) (a:=Sl.no) (i:=i-(ds.map Sl.val).length);rw[this]at e;split at e<;>cases e
 ·exfalso
  unfold ao at e
  by_cases hi:i<ds.length
  ·rw[ir (by simpa using hi),dZ,cQ hi]at e
   cases e
  ·rw[gF (by simp;omega)]at e
   have:=kD (n:=N.length-ds.length) (a:=Sl.no) (i:=i-(ds.map Sl.val).length);rw[this]at e;split at e<;>cases e
 ·exfalso
  unfold ao at e
  by_cases hi:i<ds.length
  ·rw[ir (by simpa using hi),dZ,cQ hi]at e
   cases e
  ·rw[gF (by simp;omega)]at e
   have:=kD (n:=N.length-ds.length) (a:=Sl.no) (i:=i-(ds.map Sl.val).length);rw[this]at e;split at e<;>cases e
def aw:Out->R D
 |.rt d=>.ok d
 |.xm xs=>.ok (.lst xs)
 |.nx _=>.ok .non
 |_=>.bad
def aA:Out->R (List D)
 |.xm xs=>.ok xs
 |_=>.bad
abbrev EN:Str->Hp->Prop:=λ_ _=>False
section
variable{P:aO}{w:aD}{K:aj}{mg:Str->Option ah}{base:au}
def Is.P0 {Q:ae->Prop}{H H':Hp}{d:D}{v:V}(h:Is K ((⟨Q,H⟩:Gh).P []) H' d v):Is K (λa=>Q a\/H a=none) H' d v:=Is.ext ⟨λ_ _ p _=>p.1,λ_ _ _ z=>z⟩ _ _ h
def XH{x qual:Str}{st:aB}{f:ae}{fd:aL}{N ps:List Str}{k:Nat}{xc:Str->ah}{m:List D->R D}{b:DE->R Out}(F:Br K x qual st f fd)(S:bh N ps (az st))
  (hm:∀ds d,m ds=.ok d->ds.length=ps.length/\(b (ao N.length ds)).bind aw=.ok d)(hne:∀ds c,m ds≠.err c)
  (hb:∀(cdv:ah)(A:aW)(outer:List Env)(s:ai)(H:Hp)(E:XK),bB k (A.deeper (dF qual (az st) s.heap.objs.size f cdv))->qG (gn lL P w K mg base N qual (az st) f cdv A outer s H E).Cz (dm st) (tS K EN b)):
  fz P w K mg base lL (k+1) f fd ps (Gj K xc m):=by
 refine F.ok S (λvs H Q E h=>?_) (λcdv A outer s H vs Q E hr h=>?_)
 ·obtain⟨Pa,ds,i,h⟩:=h
  cases e:m ds with
  |ok d=>rw[i.length];exact(hm ds d e).1
  |err c=>exact(hne ds c e).elim
  |bad=>rw[e]at h;exact h.elim
 ·obtain⟨Pa,ds,i,h⟩:=h
  refine⟨_,hb cdv A outer s H E hr,⟨⟨Pa,H⟩,ao N.length ds,[],rV i,?_⟩⟩;cases e:m ds with
  |err c=>exact(hne ds c e).elim
  |bad=>rw[e]at h;exact h.elim
  |ok d=>
   rw[e]at h;obtain⟨_,q⟩:=hm ds d e;cases eb:b (ao N.length ds)with
   |bad=>rw[eb]at q;cases q
   |err c=>rw[eb]at q;cases q
   |ok o=>
    rw[eb]at q;cases o with
    |rt d'=>
     cases q;exact λv H' s' i'=>h v H' s' i'.P0
    |xm xs=>
     cases q;intro a Bt H' s' hn hH i';exact h _ H' s' ⟨a,Bt,rfl,.inl ⟨.inr hn,.inl hH⟩,IsL.ext ⟨λb o p _=>p.1,λ_ _ _ z=>z⟩ _ _ i'⟩
    |nx e'=>
     cases q;exact λσ' H' dS r' _=>h _ H' r'.ext rfl
    |Iu _=>cases q
    |vM d e=>cases q
    |Ip _=>cases q
    |Ir _=>cases q
    |Io _=>cases q
    |bk _=>cases q
    |ct _=>cases q
def XI{x qual:Str}{st:aB}{f:ae}{fd:aL}{N ps:List Str}{k:Nat}{xc:Str->ah}{m:List D->R (List D)}{b:DE->R Out}(F:Br K x qual st f fd)(S:bh N ps (az st))
  (hm:∀ds d,m ds=.ok d->ds.length=ps.length/\(b (ao N.length ds)).bind aA=.ok d)(hne:∀ds c,m ds≠.err c)
  (hb:∀(cdv:ah)(A:aW)(outer:List Env)(s:ai)(H:Hp)(E:XK),bB k (A.deeper (dF qual (az st) s.heap.objs.size f cdv))->qG (gn lL P w K mg base N qual (az st) f cdv A outer s H E).Cz (dm st) (tS K EN b)):
  fz P w K mg base lL (k+1) f fd ps (QX K xc m):=by
 refine F.ok S (λvs H Q E h=>?_) (λcdv A outer s H vs Q E hr h=>?_)
 ·obtain⟨Pa,ds,i,h⟩:=h
  cases e:m ds with
  |ok d=>rw[i.length];exact(hm ds d e).1
  |err c=>exact(hne ds c e).elim
  |bad=>rw[e]at h;exact h.elim
 ·obtain⟨Pa,ds,i,h⟩:=h
  refine⟨_,hb cdv A outer s H E hr,⟨⟨Pa,H⟩,ao N.length ds,[],rV i,?_⟩⟩;cases e:m ds with
  |err c=>exact(hne ds c e).elim
  |bad=>rw[e]at h;exact h.elim
  |ok d=>
   rw[e]at h;obtain⟨_,q⟩:=hm ds d e;cases eb:b (ao N.length ds)with
   |bad=>rw[eb]at q;cases q
   |err c=>rw[eb]at q;cases q
   |ok o=>
    rw[eb]at q;cases o with
    |rt d'=>cases q
    |xm xs=>
     cases q;intro a Bt H' s' hn hH i';exact h a Bt H' s' hn hH (IsL.ext ⟨λb o p _=>⟨p.1,λz=>p.2 (by simp[z])⟩,λ_ _ _ z=>z⟩ _ _ i')
    |nx e'=>cases q
    |Iu _=>cases q
    |vM d e=>cases q
    |Ip _=>cases q
    |Ir _=>cases q
    |Io _=>cases q
    |bk _=>cases q
    |ct _=>cases q
end
def DS(cells:List (Str×ae)):List (Str×gw)->List (Str×ae)->List (Str×ae)
 |[],acc=>acc
 |(n,k)::r,acc=>if(k==gw.free)=true then DS cells r ((n,(cells.lookup n).getD 0)::acc)else DS cells r acc
def zY{scope:cO}{env:Env}(h:∀y∈scope.names,y.2=.free->∃c,env.cells.lookup y.1=aa c):closureFor scope env=bJ (DS env.cells scope.names []):=by
 have gen:∀(l:List (Str×gw))(acc:List (Str×ae)),(∀y∈l,y.2=.free->∃c,env.cells.lookup y.1=aa c)->
   (forIn l acc λ(x:Str×gw)(r:List (Str×ae))=>(if(x.2==gw.free)=true then(do let a<-cellOf env x.1;bJ (pO ((x.1,a)::r)))else bJ (pO r):Sem (ForInStep (List (Str×ae)))))=bJ (DS env.cells l acc):=by
  intro l
  induction l with
  |nil=>intro acc _;rfl
  |cons y r ih=>
   intro acc hy;obtain⟨n,k⟩:=y;rw[List.forIn_cons];have hr:∀y∈r,y.2=.free->∃c,env.cells.lookup y.1=aa c:=λy h=>hy y (cP _ h)
   by_cases hk:(k==gw.free)=true
   ·obtain⟨c,hc⟩:=hy (n,k) ky (by simpa using hk)
    have LH:env.cells.lookup n=aa c:=hc;simp only [hk,if_true,DS,cellOf,LH,MS];exact ih _ hr
   ·simp only [hk,DS]
    exact ih _ hr
 show((forIn scope.names ([]:List (Str×ae)) λ(x:Str×gw)(r:List (Str×ae))=>(if(x.2==gw.free)=true then(do let a<-cellOf env x.1;bJ (pO ((x.1,a)::r)))else bJ (pO r):Sem (ForInStep (List (Str×ae)))))>>=λs=>bJ s)=_;rw[gen scope.names [] h];rfl
theorem tX{cells:List (Str×ae)}{x:Str}:∀(l:List (Str×gw))(acc:List (Str×ae)),(∀y∈l,y.2=.free->∃c,cells.lookup y.1=aa c)->(∀c,acc.lookup x=aa c->cells.lookup x=aa c)->
  ∀c,(DS cells l acc).lookup x=aa c->cells.lookup x=aa c
 |[],acc,_,h,c,e=>h c e
 |(n,k)::r,acc,hy,h,c,e=>by
  unfold DS at e;have hr:∀y∈r,y.2=.free->∃c,cells.lookup y.1=aa c:=λy h=>hy y (cP _ h);split at e
  ·rename_i hk
   refine tX r _ hr (λc' e'=>?_) c e;rw[uX]at e';obtain⟨c0,hc0⟩:=hy (n,k) ky (by simpa using hk);have UG:cells.lookup n=aa c0:=hc0;cases hx:x==n with
   |true=>
    rw[hx]at e';have ex:x=n:=(by simpa using hx);rw[UG]at e';cases e';rw[ex];exact UG
   |false=>
    rw[hx]at e';exact h c' e'
  ·exact tX r _ hr h c e
theorem yu{cells:List (Str×ae)}{x:Str}:∀(l:List (Str×gw))(acc:List (Str×ae)),((∃c,acc.lookup x=aa c)\/(x,gw.free)∈l)->∃c,(DS cells l acc).lookup x=aa c
 |[],acc,h=>h.elim (λz=>z) λz=>nomatch z
 |(n,k)::r,acc,h=>by
  unfold DS;split
  ·rename_i hk
   refine yu r _ ?_
   by_cases hx:x=n
   ·exact .inl ⟨_,by rw[uX,beq_iff_eq.mpr hx]⟩
   ·rcases h with⟨c,h⟩|h
    ·refine .inl ⟨c,?_⟩
     rw[uX,beq_eq_false_iff_ne.mpr hx];exact h
    ·rcases bR.mp h with z|z
     ·cases z;exact absurd rfl hx
     ·exact .inr z
  ·rename_i hk
   refine yu r _ ?_;rcases h with h|h
   ·exact .inl h
   ·rcases bR.mp h with z|z
    ·cases z;exact absurd (by simp) hk
    ·exact .inr z
noncomputable def zZ(X:Cx)(scope:cO)(N:List Str)(s:ai)(H:Hp)(fp:List ae)(C:ae)(pl:List (ae×Obj)):Cx where
 prog:=X.prog
 w:=X.w
 K:=X.K
 mg:=X.mg
 base:=X.base
 A:=X.A
 N:=N
 s₀:=s
 H₀:=H
 env:=BA scope (DS X.env.cells scope.names []) C X.env
 outer:=X.stack
 stack:=X.stack
 ex:=fp
 fn:=λ_=>false
 calm:=X.calm
 pn:=pl
 xe:=λ_ _=>False
structure lP(X:Cx)(scope:cO)(N:List Str)(nt:Nat)(caps:List Nat):Prop where
 kind:scope.kind=.function
 cell:∀y∈scope.names,y.2≠.cell
 names:∀y∈scope.names,y.2=.local->scope.names.lookup y.1=aa .local
 free:∀y∈scope.names,y.2=.free->X.env.kindOf y.1=aa .cell\/X.env.kindOf y.1=aa .free
 len:N.length=nt+caps.length
 nd:N.Nodup
 caps:∀(j i:Nat),caps[j]?=aa i->∃x,N[nt+j]?=aa x/\X.N[i]?=aa x/\scope.names.lookup x=aa .free/\D5 X.env.scope x
def jj{scope:cO}{env:Env}{x:Str}{k:gw}(h:(yv scope env).names.lookup x=aa k):∃k',scope.names.lookup x=aa k'/\(k=k'\/(k'=.free/\k=.cell)):=by
 unfold yv at h;dsimp only at h;generalize scope.names=l at h
 induction l with
 |nil=>cases h
 |cons y r ih=>
  obtain⟨n,kk⟩:=y;rw[nk]at h
  by_cases hc:(kk==gw.free&&env.scope.kind==.function&&env.kindOf n==aa .cell)=true
  ·simp only [hc,if_true]at h
   rw[uX]at h⊢;cases hx:x==n with
   |true=>
    rw[hx]at h;cases h;simp only [dM]at hc;exact⟨kk,rfl,.inr ⟨by simpa using hc.1.1,rfl⟩⟩
   |false=>
    rw[hx]at h;exact ih h
  ·simp only [hc,BB,if_false]at h
   rw[uX]at h⊢;cases hx:x==n with
   |true=>
    rw[hx]at h;exact⟨kk,rfl,.inl (fj.inj h).symm⟩
   |false=>
    rw[hx]at h;exact ih h
def mem_of_lookup{α:Type}{l:List (Str×α)}{x:Str}{k:α}(h:l.lookup x=aa k):(x,k)∈l:=by
 induction l with
 |nil=>cases h
 |cons y r ih=>
  obtain⟨n,kk⟩:=y;rw[uX]at h;cases hx:x==n with
  |true=>
   rw[hx]at h;cases h;have ex:x=n:=(by simpa using hx);rw[ex];exact ky
  |false=>
   rw[hx]at h;exact cP _ (ih h)
section
variable{X:Cx}{scope:cO}{N:List Str}{nt:Nat}{caps:List Nat}{pins:List (ae×Obj)}{σ:St}{H:Hp}{s:ai}
theorem lP.cells (S:lP X scope N nt caps)(I:Inv X pins σ H s):∀y∈scope.names,y.2=.free->∃c,X.env.cells.lookup y.1=aa c:=λy hy hf=>I.ok.has y.1 (S.free y hy hf)
def lP.lk (S:lP X scope N nt caps)(I:Inv X pins σ H s){x:Str}{c:ae}(h:(DS X.env.cells scope.names []).lookup x=aa c):X.env.cells.lookup x=aa c:=
 tX scope.names [] (S.cells I) (λc e=>by cases e) c h
def lP.start (S:lP X scope N nt caps)(I:Inv X pins σ H s){fp:List ae}(hf:∀b∈fp,uH X pins H b){C:ae}{h':au}{m:Str->Option ah}{t':Nat}(hC:s.heap.objs.size<=C)(hn:h'.Ns C m)(k:∀b o,s.heap.get? b=aa o->h'.get? b=aa o)
  (hpin:∀b∈fp,∃o,s.heap.get? b=aa o)
  {vs:List V}(hv:vs.length=caps.length)(hvs:∀(j i:Nat)(v:V),caps[j]?=aa i->vs[j]?=aa v->σ[i]?=aa (aa v))(σ':St)(hσ:σ'=gx nt none++vs.map aa):
  Inv (zZ X scope N s H fp C (X.pn++pins)) [] σ' H {s with heap:=h',toks:=t'}:=by
 subst hσ;have hH:∀b,s.heap.objs.size<=b->H b=none:=λb hb=>I.hok.fresh hb;have lk:=λ{x c}(h:(DS X.env.cells scope.names []).lookup x=aa c)=>S.lk I h;have ok:(zZ X scope N s H fp C (X.pn++pins)).Ok:={
  mod:=I.ok.mod
  kind:=S.kind
  glob:=I.ok.glob
  blt:=I.ok.blt
  above:=hC
  inj:=λx y c h1 h2=>I.ok.inj x y c (lk h1) (lk h2)
  has:=λx h=>by
   have h':(yv scope X.env).names.lookup x=aa .cell\/(yv scope X.env).names.lookup x=aa .free:=h;have hfree:scope.names.lookup x=aa .free:=by
    rcases h' with h'|h'
    ·obtain⟨k',e,q⟩:=jj h'
     rcases q with rfl|⟨rfl,_⟩
     ·exact absurd rfl (S.cell _ (mem_of_lookup e))
     ·exact e
    ·obtain⟨k',e,q⟩:=jj h'
     rcases q with rfl|⟨rfl,q⟩
     ·exact e
     ·exact e
   exact yu scope.names [] (.inr (mem_of_lookup hfree))
  OZ:=λx c h=>nomatch h
  hd:=I.ok.hd
  frames:=I.ok.frames
  Qy:=.inl rfl
  Tg:=λb hb=>by obtain⟨o,e⟩:=hpin b hb;exact⟨λz=>absurd (fk (cy e) (by rw[z];exact hC)) (pq _),λx c h=>(hf b hb).2.2.2.2.1 x c (lk h)⟩
  bs:=I.bs
  Im:=gW I.ok.Im I.sz
  Cw:=λb o e hb=>by
   rcases(hf b hb).2.2.2.1 with z|z
   ·exact I.ok.Cw b o e z
   ·exact absurd (fk (cy e) (gW I.ok.Im z)) (pq _)
  Cy:=λb hb z=>by
   rcases bR.mp (I.yM b z)with q|q
   ·exact(hf b hb).2.1 q
   ·exact(hf b hb).2.2.1 q
  tQ:=I.stack
  Ls:=I.xU}
 refine⟨ok,rfl,I.bare,Un.kept k,⟨m,hn,λi x v e1 e2 e3=>?_⟩,λx c e=>?_,hH C hC,λx c e=>I.m8 x c (lk e),λp hp=>?_,I.hok.kept k,?_⟩
 ·have hi:nt<=i:=by
   refine Ge λz=>?_;rw[ir (by simpa using z),kD]at e2;split at e2<;>cases e2
  rw[gF (by simpa using hi),dZ]at e2;have Wk:(vs[i-nt]?).map aa=aa (aa v):=by simpa using e2
  cases q:vs[i-nt]? with
  |none=>rw[q]at Wk;cases Wk
  |some v'=>
   rw[q]at Wk;cases Wk;have hj:i-nt<caps.length:=(by rw[<-hv];exact(dX.mp q).1);obtain⟨x',h1,h2,h3,h4⟩:=S.caps (i-nt) caps[i-nt] (cQ hj);have ex:x'=x:=by have Wi:N[i]?=aa x:=e1;rw[show nt+(i-nt)=i by omega,Wi]at h1;exact(fj.inj h1).symm
   subst ex;have hs:=hvs (i-nt) _ v (cQ hj) q;obtain⟨m0,hn0,hl0⟩:=I.loc;obtain⟨u,r,l⟩:=hl0 _ x' v h2 hs h4;refine⟨u,r,?_⟩;have hkx:=S.free _ (mem_of_lookup h3) rfl;rcases l with⟨k1,_⟩|⟨k1,c,hc,hcell⟩
   ·have Wl:X.env.kindOf x'=aa .local:=k1
    rcases hkx with z|z
    ·have z':X.env.kindOf x'=aa .cell:=z
     rw[Wl]at z';cases z'
    ·have z':X.env.kindOf x'=aa .free:=z
     rw[Wl]at z';cases z'
   ·obtain⟨c',LH⟩:=yu (cells:=X.env.cells) (x:=x') scope.names [] (.inr (mem_of_lookup h3))
    have:=lk LH;rw[hc]at this;cases this;refine .inr ⟨?_,c,LH,let⟨o,ho,hd⟩:=hcell;⟨o,k _ o ho,hd⟩⟩;rcases e3 with z|z|z
    ·exfalso
     obtain⟨k',e,q⟩:=jj (show(yv scope X.env).names.lookup x'=aa .local from z);rcases q with rfl|⟨_,q⟩
     ·rw[h3]at e;cases e
     ·cases q
    ·exact .inl z
    ·exact .inr z
 ·obtain⟨v,z⟩:=I.cell x c (lk e)
  exact⟨v,let⟨o,ho,hd⟩:=z;⟨o,k _ o ho,hd⟩⟩
 ·have hp':p∈X.pn++pins:=by simpa[zZ]using hp
  obtain⟨e,n,ne,nf,d⟩:=I.pin p hp';refine⟨k _ _ e,n,λz=>absurd (fk (cy e) (by rw[z];exact hC)) (pq _),λz=>?_,d⟩;rcases bR.mp (I.yM _ z)with q|q
  ·exact ne q
  ·exact nf q
 ·show(gx nt none++vs.map aa).length=N.length
  rw[S.len];simp[hv]
end
section
variable{prog:aO}{w:aD}{A:aW}{E:ah->ai->Prop}{R:Result->ai->Prop}{s:ai}
def CK{elt target iter:ak}{ifs:List ak}{scope:cO}{pos:Pos}{it acc:ah}{env:Env}(I:Nat->ai->Prop)
  (turn:∀n s,I n s->aF (aG prog w) A (pyNext it) (λr s₁=>match r with
   |none=>R (.ok .next) s₁
   |some v=>aF (aG prog w) A (AW target it v) (λ_ Zy=>aF (aG prog w) A (xX target env v) (λ_ s₂=>
     aF (aG prog w) A (forIn ifs true λc r=>if r=true then do let ok<-isTrue c env (aK c env);bJ (pO ok)else bJ (pO r)) (λok s₃=>
      if ok=true then aF (aG prog w) A (aK elt env) (λx s₄=>
       aF (aG prog w) A (call (.builtin "list.append") [acc,x]) (λ_ s₅=>∃m,m<n/\I m s₅) (λ_ _=>False) s₄) (λ_ _=>False) s₃
      else∃m,m<n/\I m s₃) (λ_ _=>False) s₂) (λ_ _=>False) Zy) (λ_ _=>False) s₁) (λ_ _=>False) s)
  (n:Nat)(h:I n s):
  ng (aG prog w) A (.compLoop (.ListComp elt [⟨target,iter,ifs,0⟩] scope pos) 0 it acc env) R s:=by
 refine codeAny_loop rfl I (λn s hI=>?_) n h;show aF _ A ((compTurn (.ListComp elt [⟨target,iter,ifs,0⟩] scope pos) 0 it acc env).onRaise (λx=>do yw x env;theTreesLotGoes x)) _ _ s;refine wpAny_noted ?_;rw[compTurn_list];refine aP (wpAny_standAt (aP (eY (turn n s hI) (λr s₁ h₁=>?_) λ_ _ h'=>h'.elim)));cases r with
 |none=>exact cB h₁
 |some v=>
  refine aP (eY h₁ (λ_ Zy h₁'=>?_) λ_ _ h'=>h'.elim);refine aP (eY h₁' (λ_ s₂ h₂=>aP (eY h₂ (λok s₃ h₃=>?_) λ_ _ h'=>h'.elim)) λ_ _ h'=>h'.elim);cases ok with
  |false=>exact cB ⟨rfl,h₃⟩
  |true=>
   exact aP (aP (eY h₃ (λx s₄ h₄=>aP (eY h₄ (λ_ s₅ h₅=>cB (cB ⟨rfl,h₅⟩)) λ_ _ h'=>h'.elim)) λ_ _ h'=>h'.elim))
end
noncomputable def XJ(X:Cx)(ifs:List ak)(t:TT):Prop:=
 ∀(pins:List (ae×Obj))(s:ai)(σ:St)(H:Hp)(Q:Bool->Hp->Prop),Inv X pins σ H s->t σ H Q->
  aF (aG X.prog X.w) X.A (forIn ifs true λc r=>if r=true then do let ok<-isTrue c X.env (aK c X.env);bJ (pO ok)else bJ (pO r)) (TP X pins σ Q) X.xe s
def ts1{X:Cx}{E:Str->Hp->Prop}{c:ak}{f:DE->R Bool}(h:PT X c (tT X.K E f)):XJ X [c] (tT X.K E f):=λpins s σ H Q I q=>wpAny_tests_one (h pins s σ H Q I q)
def qm(b:D->DE->R DE)(ct:DE->R Bool)(fe:DE->R D)(e₀:DE):List D->R (List D)
 |[]=>.ok []
 |x::xs=>(b x e₀).bind λe=>(ct e).bind λt=>if t=true then(fe e).bind λd=>(qm b ct fe e₀ xs).bind λds=>.ok (d::ds)else qm b ct fe e₀ xs
def yV(env:DE):List Nat->R (List D)
 |[]=>.ok []
 |i::r=>(fS i env).bind λd=>(yV env r).bind λds=>.ok (d::ds)
theorem Good.yV {K:aj}{E:Str->Hp->Prop}{H₀ H:Hp}{g:Gh}{σ:St}{os:List ae}{env:DE}(r:Rel K g env σ H os):∀{caps:List Nat}{p:List D->Prop},Good E H₀ (yV env caps) p->
  ∃ds vs,p ds/\vs.length=caps.length/\ds.length=caps.length/\IsL K (g.P os) H ds vs/\∀(j i:Nat)(v:V),caps[j]?=aa i->vs[j]?=aa v->σ[i]?=aa (aa v)
 |[],p,h=>⟨[],[],h,rfl,rfl,rfl,λj i v e=>by simp at e⟩
 |i::rest,p,h=>by
  have h1:=h.bind;unfold fS at h1;split at h1
  ·rename_i d e
   have h2:Good E H₀ ((DL.yV env rest).bind λds=>.ok (d::ds)) p:=h1;obtain⟨ds,vs,q1,q2,q3,q4,q5⟩:=Good.yV r h2.bind;obtain⟨v,s1,s2⟩:=r.val i d e;refine⟨d::ds,v::vs,q1,by simp[q2],by simp[q3],.cons s2 q4,λj i' v' e1 e2=>?_⟩;cases j with
   |zero=>simp at e1 e2;subst e1 e2;exact s1
   |succ j=>exact q5 j i' v' (by simpa using e1) (by simpa using e2)
  ·exact h1.elim
def vY(nt:Nat)(ds:List D):DE:=gx nt Sl.no++ds.map .val
def Gm{nt:Nat}{ds:List D}{i:Nat}{d:D}(h:(vY nt ds)[i]?=aa (.val d)):nt<=i/\ds[i-nt]?=aa d:=by
 unfold vY at h;have hi:nt<=i:=by refine Ge λz=>?_;rw[ir (by simpa using z),kD]at h;split at h<;>cases h
 rw[gF (by simpa using hi),dZ]at h;refine⟨hi,?_⟩;simp only [Bb]at h;cases q:ds[i-nt]? with
 |none=>rw[q]at h;cases h
 |some d'=>rw[q]at h;cases h;rfl
def yx{nt:Nat}{ds:List D}{i:Nat}{xs:List D}(h:(vY nt ds)[i]?=aa (.own xs)):False:=by
 unfold vY at h
 by_cases hi:i<nt
 ·rw[ir (by simpa using hi),kD]at h
  split at h<;>cases h
 ·rw[gF (by simp;omega),dZ]at h
  cases q:ds[i-(gx nt Sl.no).length]? with
  |none=>rw[q]at h;cases h
  |some d'=>rw[q]at h;cases h
def CL{nt:Nat}{ds:List D}{i:Nat}{w:Ct}(h:(vY nt ds)[i]?=aa (.deep w)):False:=by
 unfold vY at h
 by_cases hi:i<nt
 ·rw[ir (by simpa using hi),kD]at h
  split at h<;>cases h
 ·rw[gF (by simp;omega),dZ]at h
  cases q:ds[i-(gx nt Sl.no).length]? with
  |none=>rw[q]at h;cases h
  |some d'=>rw[q]at h;cases h
def Gn{nt:Nat}{ds:List D}{i:Nat}{w:V}(h:(vY nt ds)[i]?=aa (.raw w)):False:=by
 unfold vY at h
 by_cases hi:i<nt
 ·rw[ir (by simpa using hi),kD]at h
  split at h<;>cases h
 ·rw[gF (by simp;omega),dZ]at h
  cases q:ds[i-(gx nt Sl.no).length]? with
  |none=>rw[q]at h;cases h
  |some d'=>rw[q]at h;cases h
section
variable{X:Cx}{pins:List (ae×Obj)}{σ:St}{H:Hp}{s:ai}{h':au}
def Pb{fp:List ae}{t':Nat}(I:Inv X pins σ H s)(hf:∀b∈fp,uH X pins H b)(k:∀b u,b∉fp->s.heap.get? b=aa u->h'.get? b=aa u):Inv X pins σ H {s with heap:=h',toks:=t'}:=by
 have UH:∀b u,H b=aa u->b∉fp:=λb u e z=>by rw[(hf b z).1]at e;cases e
 refine I.step (g':=s.gens) (d':=s.drawn) (ch:=fp) (λb hb=>⟨(hf b hb).2.2.2.1,(hf b hb).2.1,(hf b hb).2.2.2.2.1,(hf b hb).2.2.2.2.2⟩) (λb u _ _ hc e _=>k b u hc e) (λb u _ _ hc e _=>⟨u.slots,k b u hc e⟩)
  (λb u _ e n=>n) (λb u hc e=>⟨u,k b u hc e⟩) (λb xs e=>e) (λb u xs e=>e) (λb ps e=>⟨#[],by rw[e];simp⟩) (λm hm=>?_) (λb u e=>?_) I.bare
 ·obtain⟨ob,es,ep,ho,r⟩:=hm
  exact⟨ob,es,ep,k _ ob (λz=>(hf _ z).2.1 rfl) ho,r⟩
 ·refine(I.hok b u e).zP (λc v hc q=>k c v ?_ q) (λc q=>q) λc xs q=>q
  rcases hc with z|z
  ·rw[z];exact UH b u e
  ·exact UH c _ z
end
def R.ne {α:Type}:R α->R α
 |.ok a=>.ok a
 |_=>.bad
theorem R.Ji {α:Type}(a:α):(R.ok a).ne=.ok a:=rfl
def R.kE {α β:Type}{r:R α}{k:α->R β}{y:β}(h:r.bind k=.ok y):∃a,r=.ok a/\k a=.ok y:=by
 cases r with
 |ok a=>exact⟨a,rfl,h⟩
 |err c=>cases h
 |bad=>cases h
def rW{α:Type}{E:Str->Hp->Prop}{H₀:Hp}{r:R α}{a:α}{p:α->Prop}(e:r=.ok a)(h:p a):Good E H₀ r p:=by rw[e];exact h
section
variable{X:Cx}{E:Str->Hp->Prop}{pos:Pos}{scope:cO}{N:List Str}{nt:Nat}{caps:List Nat}
def Gp{K:aj}{g:Gh}{e:DE}{σ:St}{H H':Hp}{a:ae}{ds:List D}{ts:DE}(r:Rel K g e σ H [a])(he:e=ts++ds.map .val)(hl:ts.length=nt)(x:Ext (g.P [a]) (g.P [a]) H H')(s:bS g.H₀ H')(hn:∃o,H' a=aa o):
  Rel K g (vY nt ds) σ H' [a]:=by
 subst he;refine⟨by rw[r.len];simp[vY,hl],s,λi d e=>?_,λi xs e=>(yx e).elim,λi j xs ys b e=>(yx e).elim,λb hb=>?_,λi w e=>(Gn e).elim,En.none λi w e=>CL e⟩
 ·obtain⟨h1,h2⟩:=Gm e
  obtain⟨v,q1,q2⟩:=r.val i d (by rw[gF (by omega),hl,dZ,h2];rfl);exact⟨v,q1,Is.ext x _ _ q2⟩
 ·have e:b=a:=by simpa using hb
  subst e;exact⟨(r.new b hb).1,hn⟩
noncomputable def XM(X:Cx)(pins:List (ae×Obj))(σ:St)(g:Gh)(os:List ae)(H:Hp)(use:Option (ah->Sem Unit))(Qv:ah->ai->Prop)(ys:List D):Prop:=
 ∀(Dd C:ae)(acc:List V)(Hx:Hp)(s6:ai),Inv X pins σ Hx s6->(∃m,s6.heap.Ns C m)->uH X pins Hx C->bS H Hx->H Dd=none->Hx Dd=aa (.lst acc)->IsL X.K (g.P (Dd::os)) Hx ys acc->
  compPost (aG X.prog X.w) X.A X.xe use Qv (.ref Dd) C (.ok .next) s6
def MT{elt tg iter:ak}{ifs:List ak}{fi:DE->R (List D)}{b:D->DE->R DE}{ct:DE->R Bool}{fe:DE->R D}(S:lP X scope N nt caps)(Gq:X.calm=true)(hi:PI X tg iter (XE X.K E fi))
  (hb1:∀ds d e,b d (vY nt ds)=.ok e->∃ts,e=ts++ds.map .val/\ts.length=nt)
  (hg:∀s H fp C pl,PG (zZ X scope N s H fp C pl) tg (tG X.K EN b))(ht:∀s H fp C pl,XJ (zZ X scope N s H fp C pl) ifs (tT X.K EN ct))(he:∀s H fp C pl,PE (zZ X scope N s H fp C pl) elt (tD X.K EN fe))
  (hs:∀x,A0 iter X.env x=bJ x){use:Option (ah->Sem Unit)}{Qv:ah->ai->Prop}{pins:List (ae×Obj)}{s:ai}{σ:St}{H:Hp}{env:DE}{os:List ae}{g:Gh}(I:Inv X pins σ H s)(r:Rel X.K g env σ H os)
  (m:Good E g.H₀ ((fi env).bind λxs=>(yV env caps).bind λds=>(qm b ct fe (vY nt ds) xs).ne.bind fit) (XM X pins σ g os H use Qv)){ps:Pos}:
  aF (aG X.prog X.w) X.A (comprehension (.ListComp elt [⟨tg,iter,ifs,0⟩] scope pos) scope X.env ps (newList []) false (aK iter X.env) use) Qv X.xe s:=by
 refine wpAny_comprehension_free (use:=use) rfl hs (zY (S.cells I)) S.kind S.names ?_;refine gV (hi pins s σ H (λJ H1=>∃xs,bS H H1/\Zx X.K (g.P os) J H1 xs/\Good E g.H₀ ((yV env caps).bind λds=>(qm b ct fe (vY nt ds) xs).ne.bind fit) _) I ⟨g,env,os,r,m.bind.mono λxs _ m1 J H1 s1 yl=>⟨xs,s1,yl,m1⟩⟩) λv s1 h1=>gV h1 λitv s2 h2=>?_;obtain⟨it,fp,tn,J,H2,rfl,I2,T,QE,f2,xs,yW,yl,m1⟩:=h2;have r2:=r.same yW;obtain⟨ds,vs,m2,Zz,DT,hds,hvs⟩:=m1.bind.yV r2;cases ec:qm b ct fe (vY nt ds) xs with
 |bad=>rw[ec]at m2;exact m2.elim
 |err c=>rw[ec]at m2;exact m2.elim
 |ok ys=>
 rw[ec]at m2;obtain⟨hz,q⟩:=(show Good E g.H₀ (fit ys) _ from m2).fit;refine uQ (wpAny_newFunctionEnv S.cell (by intro y hy;simp at hy) (λh₁ Q2 hsb₁=>?_) S.kind);dsimp only at Q2 hsb₁⊢;have UI:H2 s2.heap.objs.size=none:=I2.hok.fresh (bZ _);have I3:Inv X pins σ (upd H2 s2.heap.objs.size (.lst [])) {s2 with heap:=s2.heap.push {cls:=.type "list",dict:=none,data:=.seq ([]:List ah).toArray}}:=
  I2.laid (t':=s2.toks) (λb u e=>ej _ e) (bZ _) ⟨yb _,[],0,.nil,jC _ rfl⟩
 generalize ZA:({s2 with heap:=s2.heap.push {cls:=.type "list",dict:=none,data:=.seq ([]:List ah).toArray}}:ai)=s3 at I3;have XO:s3.heap=s2.heap.push {cls:=.type "list",dict:=none,data:=.seq ([]:List ah).toArray}:=by rw[<-ZA]
 rw[<-XO]at Q2 hsb₁⊢;generalize hDd:s2.heap.objs.size=Dd at*;have k3:∀b o,s3.heap.get? b=aa o->h₁.get? b=aa o:=λb o e=>hsb₁.extBut b o (fX (cy e)) (ej _ e);have UJ:∀b∈fp,∃o,s2.heap.get? b=aa o:=λb hb=>let⟨o,e,_⟩:=T.obj 0 _ QE b hb;⟨o,e⟩
 have XQ:∀b∈fp,∃o,s3.heap.get? b=aa o:=λb hb=>let⟨o,e⟩:=UJ b hb;⟨o,by rw[XO];exact ej _ e⟩
 have hfD:∀b∈fp,b≠Dd:=λb hb=>let⟨o,e⟩:=UJ b hb;by rw[<-hDd];exact fX (cy e)
 have f3:∀b∈fp,uH X pins (upd H2 Dd (.lst [])) b:=λb hb=>⟨by rw[aM (hfD b hb)];exact(f2 b hb).1,(f2 b hb).2⟩
 have sD:bS H2 (upd H2 Dd (.lst [])):=d8 UI _;have I4:=S.start (t':=s2.toks+([]:List (Str×ah)).length) I3 f3 (bZ _) Q2 k3 XQ Zz (λj i v e1 e2=>hvs j i v e1 e2) _ rfl;generalize hX:zZ X scope N s3 (upd H2 Dd (.lst [])) fp s3.heap.objs.size (X.pn++pins)=X' at I4;have ZC:=hg s3 (upd H2 Dd (.lst [])) fp s3.heap.objs.size (X.pn++pins);have ZD:=ht s3 (upd H2 Dd (.lst [])) fp s3.heap.objs.size (X.pn++pins);have ZE:=he s3 (upd H2 Dd (.lst [])) fp s3.heap.objs.size (X.pn++pins);rw[hX]at ZC ZD ZE;have eK:X'.K=X.K:=by rw[<-hX];rfl
 have eP:X'.prog=X.prog:=by rw[<-hX];rfl
 have eW:X'.w=X.w:=by rw[<-hX];rfl
 have eA:X'.A=X.A:=by rw[<-hX];rfl
 have eE:X'.xe=λ_ _=>False:=by rw[<-hX];rfl
 have eC:X'.calm=true:=by rw[<-hX];exact Gq
 have eL:X'.env.locals=s3.heap.objs.size:=by rw[<-hX];rfl
 have eS:X'.s₀=s3:=by rw[<-hX];rfl
 have eX:X'.ex=fp:=by rw[<-hX];rfl
 have eF:X'.fs=Cv X.stack:=by rw[<-hX];rfl
 have eN:X'.pn=X.pn++pins:=by rw[<-hX];rfl
 have eH:X'.H₀=upd H2 Dd (.lst []):=by rw[<-hX];rfl
 have eV:X'.env=BA scope (DS X.env.cells scope.names []) s3.heap.objs.size X.env:=by rw[<-hX];rfl
 have XR:∀{Hx:Hp},(∀b∈fp,Hx b=none)->∀b∈fp,uH X' [] Hx b:=λ{Hx} hn b hb=>by obtain⟨_,c1,c2,c3,c4,c5⟩:=f3 b hb;have q:=I4.ok.Tg b (by rw[eX];exact hb);refine⟨hn b hb,q.1,I4.ok.Cy b (by rw[eX];exact hb),.inl (by rw[eX];exact hb),q.2,λp hp=>?_⟩;rw[eN,jd]at hp;exact c5 p hp
 let g':Gh:=⟨g.P os,H2⟩
 have ZF:∀{Hx:Hp},bS H2 Hx->Ext (g.P os) (g'.P [Dd]) H2 Hx:=λsx=>⟨λa o p e=>⟨.inl p,λz=>by
  have z':a=Dd:=by simpa using z
  rw[z',UI]at e;cases e⟩,λa o _ e=>sx a o e⟩
 have XS:Rel X.K g' (vY nt ds) (gx nt none++vs.map aa) (upd H2 Dd (.lst [])) [Dd]:=by
  refine⟨by simp[vY,Zz,DT],sD,λi d e=>?_,λi xs e=>(yx e).elim,λi j xs ys b e=>(yx e).elim,λb hb=>?_,λi w e=>(Gn e).elim,En.none λi w e=>CL e⟩
  ·obtain⟨h1,h2⟩:=Gm e
   obtain⟨v,q1,q2⟩:=hds.get h2;refine⟨v,?_,Is.ext (ZF sD) _ _ q2⟩;rw[gF (by simpa using h1),dZ,Bb,q1]<;>rfl
  ·have e:b=Dd:=by simpa using hb
   subst e;exact⟨UI,_,aV⟩
 have loop:∀s4:ai,Inv X' [] (gx nt none++vs.map aa) (upd H2 Dd (.lst [])) s4->tn 0 s4.heap->
   ng (aG X.prog X.w) X.A (.compLoop (.ListComp elt [⟨tg,iter,ifs,0⟩] scope pos) 0 (.ref it) (.ref Dd) (BA scope (DS X.env.cells scope.names []) s3.heap.objs.size X.env))
    (compPost (aG X.prog X.w) X.A X.xe use Qv (.ref Dd) s3.heap.objs.size) s4:=by
  intro s4 J4 UK;refine CK (λn s'=>∃i acc as rest Hx σ',n=xs.length-i/\i<=xs.length/\Inv X' [] σ' Hx s'/\tn i s'.heap/\(∀b∈fp,Hx b=none)/\Hx Dd=aa (.lst acc)/\IsL X.K (g'.P [Dd]) Hx as acc/\
   qm b ct fe (vY nt ds) (xs.drop i)=.ok rest/\as++rest=ys/\Rel X.K g' (vY nt ds) σ' Hx [Dd]) ?_ xs.length
   ⟨0,[],[],ys,_,_,by simp,yb _,J4,UK,λb hb=>(f3 b hb).1,aV,rfl,by rw[Gk];exact ec,rfl,XS⟩
  rintro n s5 ⟨i,acc,as,rest,Hx,σ5,rfl,hi5,J5,Th,Wc,Wm,XT,c5,e5,r5⟩;obtain⟨y1,y2⟩:=yl i Hx (g'.P [Dd]) r5.ext (ZF r5.ext)
  by_cases hlt:i<xs.length
  ·have hx:xs[i]?=aa xs[i]:=cQ hlt
   obtain⟨go,y3⟩:=y1 _ hx;rw[yt hlt]at c5;obtain⟨e1,Wn,c6⟩:=R.kE (show(b xs[i] (vY nt ds)).bind _=.ok rest from c5);obtain⟨t,ht5,c7⟩:=R.kE c6;have TI:=T.item X' eP eW eK eC i [] s5 σ5 Hx (λ_ _=>False) J5 (XR Wc) Th go;rw[eA]at TI;refine gV TI λr s6 h6=>?_;obtain⟨u,rfl,h6⟩:=h6;refine gV h6 λ_ s7 h7=>?_;obtain⟨x,H7,J7,rx,hy,XU,fr7⟩:=h7;obtain⟨To,hix⟩:=y3 x H7 hy;have ix:Is X.K (g'.P [Dd]) H7 xs[i] x:=Is.ext ⟨λa o p _=>p.elim (λz=>z) λz=>r5.fresh z,λ_ _ _ z=>z⟩ _ _ hix;have J7':=J7.pinned (XR fr7) (T.obj _ _ XU);have TG:=ZC _ s7 σ5 H7 x u (λσ8 H8=>∃e8,b xs[i] (vY nt ds)=.ok e8/\Rel X.K g' e8 σ8 H8 [Dd]/\H8=H7) J7' rx ⟨g',vY nt ds,[Dd],xs[i],r5.same To,ix,rW Wn λσ8 r8=>⟨e1,Wn,r8,rfl⟩⟩;rw[eP,eW,eA,eE,eV]at TG;refine gV TG λ_ s8 h8=>?_;obtain⟨σ8,H8,J8,e8,ZG,r8,hH8⟩:=h8;rw[hH8]at J8 r8;rw[Wn]at ZG;cases ZG;have TT:=ZD _ s8 σ8 H7 (λt' H9=>t'=t/\bS H7 H9) J8 ⟨g',e1,[Dd],r8,rW ht5 λH9 s9=>⟨rfl,s9⟩⟩;rw[eP,eW,eA,eE,eV]at TT;refine gV TT λok s9 h9=>?_;obtain⟨H9,J9,rfl,Lv⟩:=h9;obtain⟨ts,hts,ZI⟩:=hb1 ds _ _ Wn;have Pd:∀{σx:St}{Hy:Hp}{sx:ai},Inv X' ([]++yQ fp s7.heap) σx Hy sx->tn (i+1) sx.heap/\∀b∈fp,Hy b=none:=λ{σx Hy sx} Jx=>
    ⟨T.keep _ _ _ XU λb hb o e=>(Jx.pin (b,o) (fY _ (fY _ (pB hb e)))).1,λb hb=>by obtain⟨o,e,d⟩:=T.obj _ _ XU b hb;exact(Jx.pin (b,o) (fY _ (fY _ (pB hb e)))).2.1⟩
   cases ok with
   |false=>
    rw[if_neg gu];have c8:qm b ct fe (vY nt ds) (xs.drop (i+1))=.ok rest:=c7;obtain⟨k1,k2⟩:=Pd J9;exact⟨xs.length-(i+1),by omega,i+1,acc,as,rest,H9,σ8,rfl,hlt,J9.qJ,k1,k2,Lv _ _ (To _ _ Wm),(XT.same To).same Lv,c8,e5,
     Gp r8 hts ZI (.same Lv) (r8.ext.trans Lv) ⟨_,Lv _ _ (To _ _ Wm)⟩⟩
   |true=>
    rw[if_pos rfl];obtain⟨d,he5,c8⟩:=R.kE (show(fe e1).bind _=.ok rest from c7);obtain⟨Jj,hr5,c9⟩:=R.kE c8;have c9':rest=d::Jj:=by cases c9;rfl
    subst c9';have TE:=ZE _ s9 σ8 H9 (λv Jk=>bS H9 Jk/\Is X.K (g'.P [Dd]) Jk d v) J9 ⟨g',e1,[Dd],r8.same Lv,rW he5 λv Jk DU i10=>⟨DU,i10⟩⟩;rw[eP,eW,eA,eE,eV]at TE;refine gV TE λy DU h10=>?_;obtain⟨v,Jk,J10,rv,MU,iv⟩:=h10;have XW:Jk Dd=aa (.lst acc):=MU _ _ (Lv _ _ (To _ _ Wm));have UL:IsL X.K (g'.P [Dd]) Jk as acc:=((XT.same To).same Lv).same MU;have TM:=oG (X:=X') _ DU σ8 Jk (.ref Dd) [v] (.ref Dd) [y] (λ_ ZJ=>ZJ=upd Jk Dd (.lst (acc++[v]))) J10 rfl (.cons rv .nil) ⟨Dd,acc,v,rfl,rfl,XW,by rw[UL.length];have:(as++d::Jj).length<=aQ:=(by rw[e5];exact hz);rw[bz,jE]at this;omega,rfl⟩
    rw[eP,eW,eA,eE]at TM;refine gV TM λ_ HA h11=>?_;obtain⟨v',ZJ,ZK,_,rfl⟩:=h11;obtain⟨k1,k2⟩:=Pd ZK;have ZL:Ext (g'.P [Dd]) (g'.P [Dd]) Jk (upd Jk Dd (.lst (acc++[v]))):=⟨λ_ _ p _=>p,λa o p e=>by rw[aM (λz=>p.2 (by simp[z]))];exact e⟩
    have XX:bS H2 Jk:=(r8.ext.trans Lv).trans MU;refine⟨xs.length-(i+1),by omega,i+1,acc++[v],as++[d],Jj,_,σ8,rfl,hlt,ZK.qJ,k1,k2,aV,IsL.ext ZL _ _ (UL.app (.one iv)),hr5,by rw[jL];exact e5,?_⟩;exact Gp (r8.same (Lv.trans MU)) hts ZI ZL (λa o e=>by rw[aM (bE (show H2 a=aa o from e) UI)];exact XX a o e) ⟨_,aV⟩
  ·have e:i=xs.length:=by omega
   subst e;rw[MR]at c5;have c5':rest=[]:=by cases c5;rfl
   subst c5';rw[jd]at e5;subst e5;have TD:=T.done X' eP eW eK eC xs.length [] s5 σ5 Hx (λ_ _=>False) J5 (XR Wc) Th (y2 rfl);rw[eA]at TD;refine gV TD λr s6 h6=>?_;obtain⟨rfl,J6⟩:=h6;obtain⟨m6,Wo,_⟩:=J6.loc;rw[eL]at Wo;have un6:Un (Cv X.stack) fp (upd H2 Dd (.lst [])) Hx s3.heap s6.heap:=by have u:=J6.base;rw[eF,eX,eH,eS]at u;exact u
   have hxC:Hx s3.heap.objs.size=none:=(by have:=J6.free;rw[eL]at this;exact this);have XY:sU X.prog X.w Hx s6.heap:=by have z:=J6.hok;rw[eP,eW]at z;exact z
   have os6:s6.os=s3.os:=(by have:=J6.os;rw[eS]at this;exact this);have I6:Inv X pins σ Hx s6:=I3.Ag (s':=s6) os6 un6 XY J6.bare λb hb=>by obtain⟨_,c1,c2,c3,c4,c5⟩:=f3 b hb;exact⟨c3,c1,c4,c5⟩
   have fC:uH X pins Hx s3.heap.objs.size:=⟨hxC,(I3.He (bZ _) (I3.hok.fresh (bZ _))).2⟩
   refine q Dd s3.heap.objs.size acc Hx s6 I6 ⟨m6,Wo⟩ fC (yW.trans r5.ext) (yW.free UI) Wm (IsL.ext ⟨λa o p _=>?_,λ_ _ _ z=>z⟩ _ _ XT);have z:g.P os a:=p.1.elim (λz=>z) λz=>r2.fresh z;exact⟨z.1,λhm=>(bR.mp hm).elim (λz=>p.2 (by simp[z])) z.2⟩
 have UK:tn 0 h₁:=T.keep _ _ _ QE λb hb o e=>k3 b o (by rw[XO];exact ej _ e);have eG:({heap:=h₁,gens:=s3.gens,drawn:=s3.drawn,toks:=s2.toks+([]:List (Str×ah)).length,os:=s3.os}:ai)={heap:=h₁,gens:=s2.gens,drawn:=s2.drawn,toks:=s2.toks+([]:List (Str×ah)).length,os:=s2.os}:=by rw[<-ZA]
 rw[eG]at I4;exact codeAny_compStart_list (loop _ I4 UK) (T.self _ 0 _ _ _ UK (loop _ I4 UK))
variable{elt tg iter:ak}{ifs:List ak}{fi:DE->R (List D)}{b:D->DE->R DE}{ct:DE->R Bool}{fe:DE->R D}
def UM(S:lP X scope N nt caps)(Gq:X.calm=true)(hi:PI X tg iter (XE X.K E fi))
  (hb1:∀ds d e,b d (vY nt ds)=.ok e->∃ts,e=ts++ds.map .val/\ts.length=nt)
  (hg:∀s H fp C pl,PG (zZ X scope N s H fp C pl) tg (tG X.K EN b))(ht:∀s H fp C pl,XJ (zZ X scope N s H fp C pl) ifs (tT X.K EN ct))(he:∀s H fp C pl,PE (zZ X scope N s H fp C pl) elt (tD X.K EN fe))
  (hs:∀x,A0 iter X.env x=bJ x:=by intro _;rfl):
  PE X (.ListComp elt [⟨tg,iter,ifs,0⟩] scope pos) (tF X.K E λenv=>(fi env).bind λxs=>(yV env caps).bind λds=>(qm b ct fe (vY nt ds) xs).ne.bind fit):=by
 intro pins s σ H Q I h;obtain⟨g,env,os,r,m⟩:=h;rw[eval_ListComp];refine MT S Gq hi hb1 hg ht he hs I r (m.mono λys _ q Dd C acc Hx s6 I6 hn fC sm hD hx ia=>?_);obtain⟨m6,Wo⟩:=hn;refine⟨m6,Wo,λh7 hs7=>⟨.ref Dd,Hx,Pb (fp:=[C]) (t':=s6.toks) I6 (λb hb=>by
  have z:b=C:=by simpa using hb
  rw[z];exact fC) (λb u hb e=>(hs7.2 b (λz=>hb (by simp[z]))).trans e),rfl,q Dd acc Hx sm hD hx ia⟩⟩
end
section
variable{X:Cx}{pins:List (ae×Obj)}{σ:St}{H:Hp}{s:ai}{h':au}
def MV{fp:List ae}{t:ae}{o:HO}{t':Nat}(I:Inv X pins σ H s)(hf:∀b∈fp,uH X pins H b)(k:∀b u,b∉fp->s.heap.get? b=aa u->h'.get? b=aa u)(hex:∀b∈fp,∀u,s.heap.get? b=aa u->∃u',h'.get? b=aa u')(ht:s.heap.objs.size<=t)
  (new:gK X.prog X.w (upd H t o) h' t o):Inv X pins σ (upd H t o) {s with heap:=h',toks:=t'}:=by
 have hn:H t=none:=I.hok.fresh ht;have UH:∀b u,H b=aa u->b∉fp:=λb u e z=>by rw[(hf b z).1]at e;cases e
 refine I.step (g':=s.gens) (d':=s.drawn) (ch:=fp) (λb hb=>⟨(hf b hb).2.2.2.1,(hf b hb).2.1,(hf b hb).2.2.2.2.1,(hf b hb).2.2.2.2.2⟩) (λb u _ _ hc e _=>k b u hc e) (λb u _ _ hc e _=>⟨u.slots,k b u hc e⟩)
  (λb u _ e n=>by rw[aM (fX (fk (cy e) ht))];exact n) (λb u hc e=>⟨u,k b u hc e⟩)
  (λb xs e=>by rw[aM (bE e hn)];exact e) (λb u xs e=>by rw[aM (bE e hn)];exact e) (λb ps e=>⟨#[],by rw[aM (bE e hn),e];simp⟩)
  (λm hm=>?_) (λb u e=>?_) I.bare
 ·obtain⟨ob,es,ep,ho,r⟩:=hm
  exact⟨ob,es,ep,k _ ob (λz=>(hf _ z).2.1 rfl) ho,r⟩
 ·by_cases hb:b=t
  ·subst hb;rw[aV]at e;cases e;exact new
  ·rw[aM hb]at e
   refine(I.hok b u e).zP (λc v hc q=>k c v ?_ q) (λc q=>by rw[aM (bE q hn)];exact q) λc xs q=>by rw[aM (bE q hn)];exact q
   rcases hc with z|z
   ·rw[z];exact UH b u e
   ·exact UH c _ z
end
def ZM(K:aj)(l:ae):It:=
 ⟨λi H=>∃xs x,lB K H l xs/\xs[i]?=aa x,λi H x H'=>∃t y,H t=none/\H'=upd H t (.tup [.int (i:Nat),y])/\x=.ref t/\∀xs,lB K H l xs->xs[i]?=aa y,λi H=>∃xs,lB K H l xs/\xs.length<=i⟩
def HB{P:aO}{w:aD}{K:aj}{elts:List ak}{kk:Nat}{pp:Pos}(l e it:ae)(hei:e≠it):
  Turn P w K (.Tuple elts kk pp) (ZM K l) [e,it] e (λi h=>(∃old,IsEnum h e it (i:Nat) old)/\h.IsListIter it l i) where
 mem:=by simp
 obj:=λi h st b hb=>by
  obtain⟨⟨old,he⟩,o,e2,c,d⟩:=st;rcases bR.mp hb with rfl|hb
  ·exact⟨_,he,λv z=>by cases z⟩
  ·have z:b=it:=by simpa using hb
   subst z;exact⟨o,e2,λv z=>by rw[d]at z;cases z⟩
 keep:=λi h h' st k=>by obtain⟨⟨old,he⟩,hit⟩:=st;exact⟨⟨old,k e (by simp) _ he⟩,hit.at λo q=>k it (by simp) o q⟩
 item:=by
  intro X hP hw hK hc i pins s σ H E I hf st hg;subst hP hw hK;obtain⟨xs,x,hq,hx⟩:=hg;obtain⟨its,rv,p,hz⟩:=I.list hq;obtain⟨u,hu,ru⟩:=rv.get hx;obtain⟨⟨old,he⟩,hit⟩:=st;refine wpAny_pyNext_enum_item he hit p.isList (x:=u) (by simpa using hu) hei λh' ho UN hT hsz hk=>?_;refine⟨_,rfl,wpAny_letOwnedTupleGo_enum ho λWq UO MX=>?_⟩;have hlt:e<s.heap.objs.size:=cy he;have X0:it<s.heap.objs.size:=by obtain⟨_,z,_⟩:=hit;exact cy z
  have kk:∀b o,b∉[e,it]->s.heap.get? b=aa o->Wq.get? b=aa o:=λb o hb q=>by have h1:b≠e:=λz=>hb (by simp[z]);have h2:b≠it:=λz=>hb (by simp[z]);exact(MX.2 b h1).trans (hk b o h1 h2 q)
  have X1:Wq.get? s.heap.objs.size=aa {cls:=.type "tuple",data:=.seq #[.int i s.toks,u]}:=(MX.2 _ (AV hlt)).trans hT;have hn:H s.heap.objs.size=none:=I.hok.fresh (bZ _);refine⟨.ref s.heap.objs.size,upd H s.heap.objs.size (.tup [.int (i:Nat),x]),?_,rfl,⟨_,x,hn,rfl,rfl,λys hy=>by rw[I.yP hy hq];exact hx⟩,⟨⟨u,by simpa using UO⟩,UN.at λo q=>(MX.2 it hei.symm).trans q⟩,λb hb=>?_⟩
  ·refine MV (s:=s) I hf kk (λb hb u hu=>?_) (bZ _) ⟨(by show 2<=aQ;decide),[.int i s.toks,u],.cons ⟨_,rfl⟩ (.cons ru .nil),⟨_,X1,rfl,_,rfl⟩⟩
   rcases bR.mp hb with rfl|hb
   ·exact⟨_,UO⟩
   ·have z:b=it:=by simpa using hb
    subst z;obtain⟨o,q,_⟩:=UN;exact⟨o,(MX.2 b hei.symm).trans q⟩
  ·rw[aM]
   ·exact(hf b hb).1
   ·rcases bR.mp hb with rfl|hb
    ·exact fX hlt
    ·have z:b=it:=by simpa using hb
     subst z;exact fX X0
 done:=by
  intro X hP hw hK hc i pins s σ H E I hf st hg;subst hP hw hK;obtain⟨xs,hq,hx⟩:=hg;obtain⟨its,rv,p,hz⟩:=I.list hq;obtain⟨⟨old,he⟩,hit⟩:=st;have hl:=rv.length;refine wpAny_pyNext_enum_end (I.ok.hd hc) he hit p.isList (by simp;omega) λh' eb=>⟨rfl,?_⟩
  exact Pb (fp:=[e,it]) (t':=s.toks) I hf λb o hb q=>eb b o (λz=>hb (by simp[z])) q
 self:=λ_ _ _ _ _ st h=>by obtain⟨⟨old,he⟩,_⟩:=st;exact MY he h
section
variable{X:Cx}{E:Str->Hp->Prop}{pos:Pos}
def jo(xs:List D):List D:=xs.zipIdx.map λp=>.tup [.int (p.2:Nat),p.1]
def Aq{xs:List D}{i:Nat}{d:D}(h:(jo xs)[i]?=aa d):∃x,xs[i]?=aa x/\d=.tup [.int (i:Nat),x]:=by
 unfold jo at h;rw[dZ,List.getElem?_zipIdx]at h;cases q:xs[i]? with
 |none=>rw[q]at h;cases h
 |some x=>
  rw[q]at h;refine⟨x,rfl,?_⟩;have h':aa (D.tup [.int ((0+i:Nat):Int),x])=aa d:=h;rw[Gr]at h';exact(fj.inj h').symm
def iE{a:ak}{elts:List ak}{kk:Nat}{pp p:Pos}{f:DE->R D}(hm:X.mg "enumerate"=none)(ha:PE X a (tD X.K E f))(hg:Gl X "enumerate":=by rfl)(hs:aq [a] X.env=[(false,aK a X.env)]:=by rfl):
  PI X (.Tuple elts kk pp) (.Call (.Name "enumerate" p) [a] [] pos) (tI X.K E λenv=>(f env).bind λd=>(Jf d).bind λxs=>.ok (jo xs)):=by
 intro pins s σ H Rr I h;obtain⟨g,env,os,r,m⟩:=h;have hpa:PA X [a] (Hv X.K E λenv=>(f env).bind λx=>(R.ok []).bind λxs=>.ok (x::xs)):=aJ ha dI hs;refine Call_ (vU I hg hm boot_enumerate (AY (gV (hpa pos pins s σ H (λvs H1=>bS H H1/\∃d,f env=.ok d/\∃v,vs=[v]/\Is X.K (g.P os) H1 d v/\Good E g.H₀ ((Jf d).bind λxs=>.ok (jo xs)) (λxs=>∀J H1,bS H H1->Yl X.K (g.P os) J H1 xs->Rr J H1)) I
  ⟨g,env,os,r,?_⟩) λus s1 ⟨vs,H1,I1,r1,q1⟩=>?_) hs rfl))
 ·exact Good.MI m.bind (λd e q=>by
   show Good E g.H₀ (R.ok [d]) _;exact λvs H' s' i'=>by obtain⟨v,rfl,iv⟩:=IsL.Et i';exact⟨s',d,e,v,rfl,iv,q⟩)
 ·obtain⟨s1',d,_,v,rfl,iv,q⟩:=q1
  cases d with
  |lst xs=>
   obtain⟨l,ws,rfl,h1,h2⟩:=iv;obtain⟨u,rfl,ru⟩:=vals1 r1;cases ru;obtain⟨its,rv,pl,hz⟩:=I1.list h1.sq;refine call_enumerate_list pl.isList λh' he hit hsz hk=>?_;refine MY he ?_;have I2:Inv X pins σ H1 {s1 with heap:=h'}:=I1.kept (t':=s1.toks) hk;have f1:∀b∈[s1.heap.objs.size+1,s1.heap.objs.size],uH X pins H1 b:=λb hb=>by
    have Wr:s1.heap.objs.size<=b:=by simp only [bR,jM,or_false]at hb;rcases hb with rfl|rfl<;>omega
    exact I1.He Wr (I1.hok.fresh Wr)
   refine⟨s1.heap.objs.size+1,[s1.heap.objs.size+1,s1.heap.objs.size],_,ZM X.K l,H1,rfl,I2,HB l _ _ (AV (A7 _)),⟨⟨_,he⟩,hit⟩,f1,?_⟩;refine(show∀J H1,bS H H1->Yl X.K (g.P os) J H1 (jo xs)->Rr J H1 from q) _ H1 s1' λi H' P' ex=>⟨λd hd=>?_,λhi=>?_⟩
   ·obtain⟨x,hx,rfl⟩:=Aq hd
    obtain⟨y,hy,iy⟩:=(IsL.ext ex _ _ h2).get hx;refine⟨⟨ws,y,(h1.ext ex).sq,hy⟩,λz H2 hyl=>?_⟩;obtain⟨t,y',ht,rfl,rfl,hall⟩:=hyl;have e2:=hall ws (h1.ext ex).sq;rw[hy]at e2;cases e2;refine⟨d8 ht _,t,_,rfl,.inl ⟨.inr ht,.inl aV⟩,IsL.cons rfl (IsL.one (Is.ext ⟨λ_ _ p _=>.inl p,λa o _ e=>d8 ht _ a o e⟩ _ _ iy))⟩
   ·refine⟨ws,(h1.ext ex).sq,?_⟩
    rw[IsL.length h2];refine pI ?_;have:(jo xs).length=xs.length:=(by simp[jo]);omega
  |non=>exact q.elim
  |bl _=>exact q.elim
  |int _=>exact q.elim
  |str _=>exact q.elim
  |exc _=>exact q.elim
  |fn _=>exact q.elim
  |tup _=>exact q.elim
end
def sJ:D->String
 |.non=>"NoneType"
 |.bl _=>"bool"
 |.int _=>"int"
 |.str _=>"str"
 |.lst _=>"list"
 |.tup _=>"tuple"
 |.exc _=>"tuple"
 |.fn _=>"tuple"
def j8(t T:String):Bool:=t==T||(t=="bool"&&T=="int")
def CM(t T:String):Option Bool:=if((AO t)==(AO T))=true then aa true else if PySem.W.kitMeta T=true then(fastBuiltinMro t).map (·.contains (.type T))else none
theorem MZ(K:aj)(t T:String):ig K (.type t) (.type T)=CM t T:=rfl
def CN(T:String):Prop:=∀d:D,CM (sJ d) T=aa (j8 (sJ d) T)
def uY{T:String}(h:CM "NoneType" T=aa (j8 "NoneType" T)/\CM "bool" T=aa (j8 "bool" T)/\CM "int" T=aa (j8 "int" T)/\CM "str" T=aa (j8 "str" T)/\CM "list" T=aa (j8 "list" T)/\CM "tuple" T=aa (j8 "tuple" T)):CN T:=λd=>by
 cases d with
 |non=>exact h.1
 |bl _=>exact h.2.1
 |int _=>exact h.2.2.1
 |str _=>exact h.2.2.2.1
 |lst _=>exact h.2.2.2.2.1
 |tup _=>exact h.2.2.2.2.2
 |exc _=>exact h.2.2.2.2.2
 |fn _=>exact h.2.2.2.2.2
def yX:CN "int":=uY (by decide +kernel)
def Gs:CN "bool":=uY (by decide +kernel)
def tY:CN "str":=uY (by decide +kernel)
def rX:CN "list":=uY (by decide +kernel)
def mj:CN "tuple":=uY (by decide +kernel)
section
variable{X:Cx}{E:Str->Hp->Prop}{pos:Pos}
def Q3{pins:List (ae×Obj)}{σ:St}{H:Hp}{s:ai}{A:aW}{E:ah->ai->Prop}{Q:ah->ai->Prop}{d:D}{x:V}{u:ah}{T:String}{P:ae->Prop}(I:Inv X pins σ H s)(rx:RelV x u)(hd:Is X.K P H d x)(hne:∀n,d≠.exc n/\d≠.fn n)(kt:CN T)(h:∀tk,Q (.bool (j8 (sJ d) T)) {s with toks:=tk}):
  aF (aG X.prog X.w) A (call (.builtin "isinstance") [u,.type T]) Q E s:=by
 have e:ig X.K (.type (sJ d)) (.type T)=aa (j8 (sJ d) T):=(MZ _ _ _).trans (kt d);cases d with
 |non=>cases hd;exact rL I rx .non e h
 |bl b=>cases hd;exact rL I rx (.bl b) e h
 |int b=>cases hd;exact rL I rx (.int b) e h
 |str b=>cases hd;exact rL I rx (.str b) e h
 |lst ds=>
  obtain⟨a,vs,rfl,h1,h2⟩:=hd;cases rx;obtain⟨its,rv,⟨o,n,e1,c1,d1,t1⟩,hz⟩:=I.list h1.sq;exact gY F2 I.qy ⟨o,e1,c1⟩ e (λz=>nomatch z) h
 |tup ds=>
  obtain⟨a,vs,rfl,h1,h2⟩:=hd;cases rx;obtain⟨its,rv,⟨o,e1,c1,d1⟩,hz⟩:=I.tuple h1.sq;exact gY Me I.qy ⟨o,e1,c1⟩ e (λz=>nomatch z) h
 |exc n=>exact((hne n).1 rfl).elim
 |fn n=>exact((hne n).2 rfl).elim
def qO(T:String)(d:D):R D:=match d with
 |.exc _=>.bad
 |.fn _=>.bad
 |d=>.ok (.bl (j8 (sJ d) T))
def Q4{T:String}{d:D}(h:∀n,d≠.exc n/\d≠.fn n):qO T d=.ok (.bl (j8 (sJ d) T)):=by
 cases d with
 |exc n=>exact((h n).1 rfl).elim
 |fn n=>exact((h n).2 rfl).elim
 |_=>rfl
def kF:fy "isinstance"=aa (.builtin "isinstance"):=by decide +kernel
def yY:fy "int"=aa (.type "int"):=by decide +kernel
def Gu:fy "bool"=aa (.type "bool"):=by decide +kernel
def pP:fy "list"=aa (.type "list"):=by decide +kernel
def tZ:fy "str"=aa (.type "str"):=by decide +kernel
def mm:fy "tuple"=aa (.type "tuple"):=by decide +kernel
def cW:fy "len"=aa (.builtin "len"):=by decide +kernel
def kW:fy "abs"=aa (.builtin "abs"):=by decide +kernel
def Q5:fy "max"=aa (.builtin "max"):=by decide +kernel
def kj{T:String}{x:Str}{p p2:Pos}{a:ak}{f:DE->R D}(kt:CN T)(hv:fy x=aa (.type T))(hm:X.mg "isinstance"=none)(hmt:X.mg x=none)(ha:PE X a (tB X.K E f))(hg:Gl X "isinstance":=by rfl)(UQ:Gl X x:=by rfl)
  (hn:x≠"__name__":=by decide)(hdb:(x==("__debug__":Str))=false:=by decide)
  (hs:aq [a,.Name x p2] X.env=(false,aK a X.env)::aq [.Name x p2] X.env:=by rfl)(hpl:(bY pos (aq [.Name x p2] X.env)).any (·.1)=false:=by rfl)(hs2:aq [.Name x p2] X.env=(false,aK (.Name x p2) X.env)::aq [] X.env:=by rfl):
  PE X (.Call (.Name "isinstance" p) [a,.Name x p2] [] pos) (tD X.K E λenv=>(f env).bind (qO T)):=by
 have hty:PE X (.Name x p2) (tC (.ty T)):=FA UQ hmt hv rfl hn hdb;refine imp (jH (r:=λxs H Q=>∃d v,xs=[v,.ty T]/\(∀n,d≠.exc n/\d≠.fn n)/\Is X.K Tr H d v/\Q (.bl (j8 (sJ d) T)) H) ?_ hg hm kF (aX ha (aX hty cX hs2) hs) (by decide) (by decide) hs hpl) λσ H Q ⟨g,env,os,r,m⟩=>⟨g,env,os,r,m.bind.mono λd _ q v H' s i=>?_⟩
 ·intro pins s σ H xs us Q I r h
  obtain⟨d,v,rfl,hne,hd,q⟩:=h;obtain⟨u,w,rfl,ru,rQ⟩:=vals2 r;have e:w=.type T:=rQ;subst e;exact Q3 I ru hd hne kt λtk=>⟨.bl _,H,I.tok _,rfl,q⟩
 ·by_cases hne:∀n,d≠.exc n/\d≠.fn n
  ·rw[Q4 hne]at q
   exact⟨d,v,rfl,hne,i,q _ H' s rfl⟩
  ·cases d with
   |exc n=>exact q.elim
   |fn n=>exact q.elim
   |_=>exact(hne λn=>⟨λz=>(nomatch z),λz=>(nomatch z)⟩).elim
def bools:List D->Option (List Bool)
 |[]=>aa []
 |.bl b::r=>(bools r).map (b::·)
 |_::_=>none
end
noncomputable def Tp:D->D->Option Bool
 |.non,.non=>aa true
 |.bl a,.bl b=>aa (a==b)
 |.int a,.int b=>aa (a==b)
 |.str a,.str b=>aa (a==b)
 |.bl a,.int b=>aa ((if a then 1 else 0)==b)
 |.int a,.bl b=>aa (a==(if b then 1 else 0))
 |.non,.bl _=>aa false
 |.non,.int _=>aa false
 |.non,.str _=>aa false
 |.bl _,.non=>aa false
 |.bl _,.str _=>aa false
 |.int _,.non=>aa false
 |.int _,.str _=>aa false
 |.str _,.non=>aa false
 |.str _,.bl _=>aa false
 |.str _,.int _=>aa false
 |_,_=>none
def uZ(f:D->D->Option Bool):List D->List D->Option Bool
 |x::xs,y::ys=>(f x y).bind λb=>(uZ f xs ys).map (b&&·)
 |_,_=>aa true
def yZ:Nat->D->D->Option Bool
 |0,x,y=>Tp x y
 |n+1,x,y=>match x,y with
  |.lst xs,.lst ys=>if xs.length=ys.length then uZ (yZ n) xs ys else aa false
  |.tup xs,.tup ys=>(uZ (yZ n) xs ys).map (·&&xs.length==ys.length)
  |x,y=>Tp x y
def Q6(f:D->D->Option Bool)(xs ys:List D)(j:Nat):Bool:=((xs[j]?).bind λx=>(ys[j]?).bind λy=>f x y).getD false
def y0(n:Nat)(e:Nat->Bool):(eR (n+1)).all e=(e 0&&(eR n).all λj=>e (j+1)):=by rw[M0,Gv,List.all_map];rfl
theorem vZ{f:D->D->Option Bool}:∀{xs ys:List D}{b:Bool},uZ f xs ys=aa b->(∀(j:Nat)(x y:D),xs[j]?=aa x->ys[j]?=aa y->f x y=aa (Q6 f xs ys j))/\b=(eR (min xs.length ys.length)).all (Q6 f xs ys)
 |[],ys,b,h=>by
  have h':aa true=aa b:=by cases ys<;>exact h
  cases h';exact⟨λj x y e=>by simp at e,by simp⟩
 |x::xs,[],b,h=>by cases h;exact⟨λj x y _ e=>by simp at e,by simp⟩
 |x::xs,y::ys,b,h=>by
  unfold uZ at h;cases e1:f x y with
  |none=>rw[e1]at h;cases h
  |some c=>
   cases e2:uZ f xs ys with
   |none=>rw[e1,e2]at h;cases h
   |some d=>
    rw[e1,e2]at h;have h':(c&&d)=b:=fj.inj h;obtain⟨q1,q2⟩:=vZ e2;refine⟨λj x' y' h1 h2=>?_,?_⟩
    ·cases j with
     |zero=>
      simp at h1 h2;subst h1 h2;show f x y=aa (((aa x).bind λx=>(aa y).bind λy=>f x y).getD false);simp[e1]
     |succ j=>exact q1 j x' y' (by simpa using h1) (by simpa using h2)
    ·have e3:min (x::xs).length (y::ys).length=min xs.length ys.length+1:=by simp[Nat.succ_min_succ]
     rw[e3,y0,<-h',q2];have e4:Q6 f (x::xs) (y::ys) 0=c:=by show(((aa x).bind λx=>(aa y).bind λy=>f x y).getD false)=c;simp[e1]
     rw[e4];rfl
section
variable{X:Cx}{pins:List (ae×Obj)}{σ:St}{H:Hp}{s:ai}
def Jl{A:aW}{P:ae->Prop}{x y:D}{v w:V}{u u':ah}{b:Bool}(hx:Is X.K P H x v)(hy:Is X.K P H y w)(rv:RelV v u)(rQ:RelV w u')(e:Tp x y=aa b):uD A s u u' b/\rY A s u u' b/\rZ A s u u' (!b):=by
 unfold Tp at e;split at e<;>first|cases e|skip
 ·cases hx;cases hy;cases rv;cases rQ;exact⟨.same _,.none_none,.none_none⟩
 ·cases hx;cases hy;cases rv;cases rQ;exact⟨.bool_bool _ _,.bool_bool _ _,.bool_bool _ _⟩
 ·cases hx;cases hy;obtain⟨t,rfl⟩:=rv;obtain⟨t',rfl⟩:=rQ;exact⟨.int_int _ _ _ _,.int_int _ _ _ _,.int_int _ _ _ _⟩
 ·cases hx;cases hy;obtain⟨t,rfl⟩:=rv;obtain⟨t',rfl⟩:=rQ;exact⟨.str_str _ _ _ _,.str_str _ _ _ _,.str_str _ _ _ _⟩
 ·cases hx;cases hy;cases rv;obtain⟨t',rfl⟩:=rQ;exact⟨.bool_int _ _ _,.bool_int _ _ _,.bool_int _ _ _⟩
 ·cases hx;cases hy;obtain⟨t,rfl⟩:=rv;cases rQ;exact⟨.int_bool _ _ _,.int_bool _ _ _,.int_bool _ _ _⟩
 ·cases hx;cases hy;cases rv;cases rQ;exact⟨.none_bool _,.none_bool _,.none_bool _⟩
 ·cases hx;cases hy;cases rv;obtain⟨t',rfl⟩:=rQ;exact⟨.none_int _ _,.none_int _ _,.none_int _ _⟩
 ·cases hx;cases hy;cases rv;obtain⟨t',rfl⟩:=rQ;exact⟨.none_str _ _,.none_str _ _,.none_str _ _⟩
 ·cases hx;cases hy;cases rv;cases rQ;exact⟨.bool_none _,.bool_none _,.bool_none _⟩
 ·cases hx;cases hy;cases rv;obtain⟨t',rfl⟩:=rQ;exact⟨.bool_str _ _ _,.bool_str _ _ _,.bool_str _ _ _⟩
 ·cases hx;cases hy;obtain⟨t,rfl⟩:=rv;cases rQ;exact⟨.int_none _ _,.int_none _ _,.int_none _ _⟩
 ·cases hx;cases hy;obtain⟨t,rfl⟩:=rv;obtain⟨t',rfl⟩:=rQ;exact⟨.int_str _ _ _ _,.int_str _ _ _ _,.int_str _ _ _ _⟩
 ·cases hx;cases hy;obtain⟨t,rfl⟩:=rv;cases rQ;exact⟨.str_none _ _,.str_none _ _,.str_none _ _⟩
 ·cases hx;cases hy;obtain⟨t,rfl⟩:=rv;cases rQ;exact⟨.str_bool _ _ _,.str_bool _ _ _,.str_bool _ _ _⟩
 ·cases hx;cases hy;obtain⟨t,rfl⟩:=rv;obtain⟨t',rfl⟩:=rQ;exact⟨.str_int _ _ _ _,.str_int _ _ _ _,.str_int _ _ _ _⟩
def CO{P:ae->Prop}{x y:D}{v:V}{b:Bool}(hx:Is X.K P H x v)(hy:Is X.K P H y v)(e:Tp x y=aa b):b=true:=by
 unfold Tp at e;split at e<;>first|cases e|skip
 all_goals cases hx
 all_goals cases hy
 all_goals simp
theorem y4{P:ae->Prop}{f:D->D->Option Bool}:∀{xs ys:List D}{vs:List V}{b:Bool},(∀x y v b,Is X.K P H x v->Is X.K P H y v->f x y=aa b->b=true)->IsL X.K P H xs vs->IsL X.K P H ys vs->uZ f xs ys=aa b->b=true/\xs.length=ys.length
 |[],ys,vs,b,_,hx,hy,e=>by
  have e':vs=[]:=hx;subst e';have:=IsL.length hy;cases ys with
  |nil=>cases e;exact⟨rfl,rfl⟩
  |cons _ _=>simp at this
 |x::xs,[],vs,b,_,hx,hy,e=>by have:=IsL.length hx;have e':vs=[]:=hy;subst e';simp at this
 |x::xs,y::ys,vs,b,hf,⟨v,r,e1,p1,q1⟩,⟨v',r',e2,p2,q2⟩,e=>by
  subst e1;cases e2;unfold uZ at e;cases h1:f x y with
  |none=>rw[h1]at e;cases e
  |some c=>
   cases h2:uZ f xs ys with
   |none=>rw[h1,h2]at e;cases e
   |some d=>
    rw[h1,h2]at e;have e':(c&&d)=b:=fj.inj e;obtain⟨z1,z2⟩:=y4 hf q1 q2 h2;have z3:=hf x y v c p1 p2 h1;subst z1 z3 e';exact⟨rfl,by simp[z2]⟩
theorem u4(I:Inv X pins σ H s){P:ae->Prop}:∀(n:Nat)(x y:D)(v:V)(b:Bool),Is X.K P H x v->Is X.K P H y v->yZ n x y=aa b->b=true
 |0,x,y,v,b,hx,hy,e=>CO hx hy e
 |n+1,x,y,v,b,hx,hy,e=>by
  unfold yZ at e;split at e
  ·rename_i xs ys
   obtain⟨a,vs,rfl,h1,h2⟩:=hx;obtain⟨a',Bt,ea,h3,h4⟩:=hy;cases ea;have ev:=I.yP h1.sq h3.sq;subst ev;split at e
   ·exact(y4 (u4 I n) h2 h4 e).1
   ·rename_i c
    exact absurd ((IsL.length h2).symm.trans (IsL.length h4)) c
  ·rename_i xs ys
   obtain⟨a,vs,rfl,h1,h2⟩:=hx;obtain⟨a',Bt,ea,h3,h4⟩:=hy;cases ea;have ev:=I.Ah h1.sq h3.sq;subst ev;cases ez:uZ (yZ n) xs ys with
   |none=>rw[ez]at e;cases e
   |some c=>
    rw[ez]at e;obtain⟨z1,z2⟩:=y4 (u4 I n) h2 h4 ez;subst z1;have e':(true&&(xs.length==ys.length))=b:=fj.inj e;rw[<-e',z2];simp
  ·exact CO hx hy e
theorem in1_units(A:aW):A.in1.units=A.units+1:=rfl
theorem Gw(I:Inv X pins σ H s){P:ae->Prop}:∀(n:Nat)(A:aW)(x y:D)(v w:V)(u u':ah)(b:Bool),A.units+n<rM->Is X.K P H x v->Is X.K P H y w->RelV v u->RelV w u'->yZ n x y=aa b->uD A s u u' b/\rY A s u u' b/\rZ A s u u' (!b)
 |0,A,x,y,v,w,u,u',b,hu,hx,hy,rv,rQ,e=>Jl hx hy rv rQ e
 |n+1,A,x,y,v,w,u,u',b,hu,hx,hy,rv,rQ,e=>by
  have e0:=e;unfold yZ at e;have hu1:A.in1.units+n<rM:=by rw[in1_units];omega
  have Tq:A.units<rM:=by omega
  split at e
  ·rename_i xs ys
   have Tt:=hx;have X2:=hy;obtain⟨a,vs,rfl,h1,h2⟩:=hx;obtain⟨a',Bt,rfl,h3,h4⟩:=hy;cases rv;cases rQ;obtain⟨its,UR,pl,hz⟩:=I.list h1.sq;obtain⟨its',Jm,Q7,Uv⟩:=I.list h3.sq;have l1:=UR.length;have l2:=Jm.length;have l3:vs.length=xs.length:=IsL.length h2;have l4:Bt.length=ys.length:=IsL.length h4;have main:rY A s (.ref a) (.ref a') b/\rZ A s (.ref a) (.ref a') (!b):=by
    split at e
    ·rename_i c
     obtain⟨q1,q2⟩:=vZ e;have hsz:its.toArray.size=its'.toArray.size:=(by simp;omega);have X3:min xs.length ys.length=its.toArray.size:=(by simp;omega);rw[X3]at q2;subst q2;have he:∀j (g1:j<its.toArray.size)(g2:j<its'.toArray.size),uD A.in1 s its.toArray[j] its'.toArray[j] (Q6 (yZ n) xs ys j):=λj g1 g2=>by
      have j1:j<xs.length:=(by simp at g1;omega);have j2:j<ys.length:=(by simp at g2;omega);have f:=q1 j _ _ (cQ j1) (cQ j2);obtain⟨v1,hv1,X4⟩:=IsL.get h2 (cQ j1);obtain⟨v2,hv2,UT⟩:=IsL.get h4 (cQ j2);obtain⟨u1,Q8,X5⟩:=UR.get hv1;obtain⟨u2,Q9,X6⟩:=Jm.get hv2;have E1:its.toArray[j]=u1:=by have:=dX.mp Q8;obtain⟨_,h⟩:=this;simpa using h
      have E2:its'.toArray[j]=u2:=by have:=dX.mp Q9;obtain⟨_,h⟩:=this;simpa using h
      rw[E1,E2];exact(Gw I n A.in1 _ _ _ _ _ _ _ hu1 X4 UT X5 X6 f).1
     exact⟨rY.lists pl.isList Q7.isList hsz Tq he,rZ.lists pl.isList Q7.isList hsz Tq he⟩
    ·rename_i c
     cases e;have hsz:(its.toArray.size !=its'.toArray.size)=true:=(by simp;omega);exact⟨rY.lists_lengths pl.isList Q7.isList hsz Tq,rZ.lists_lengths pl.isList Q7.isList hsz Tq⟩
   refine⟨?_,main⟩
   by_cases ha:a=a'
   ·subst ha
    have:=u4 I (n+1) _ _ _ _ Tt X2 e0;subst this;exact .same _
   ·exact .of_refs ha main.1
  ·rename_i xs ys
   have Tt:=hx;have X2:=hy;obtain⟨a,vs,rfl,h1,h2⟩:=hx;obtain⟨a',Bt,rfl,h3,h4⟩:=hy;cases rv;cases rQ;obtain⟨its,UR,pl,hz⟩:=I.tuple h1.sq;obtain⟨its',Jm,Q7,Uv⟩:=I.tuple h3.sq;have l1:=UR.length;have l2:=Jm.length;have l3:vs.length=xs.length:=IsL.length h2;have l4:Bt.length=ys.length:=IsL.length h4;have main:rY A s (.ref a) (.ref a') b/\rZ A s (.ref a) (.ref a') (!b):=by
    cases ez:uZ (yZ n) xs ys with
    |none=>rw[ez]at e;cases e
    |some c=>
     rw[ez]at e;obtain⟨q1,q2⟩:=vZ ez;have s1:xs.length=its.toArray.size:=(by simp;omega);have s2:ys.length=its'.toArray.size:=(by simp;omega);have e':(c&&(xs.length==ys.length))=b:=fj.inj e;rw[q2]at e';have he:∀j (g1:j<its.toArray.size)(g2:j<its'.toArray.size),uD A.in1 s its.toArray[j] its'.toArray[j] (Q6 (yZ n) xs ys j):=λj g1 g2=>by
      have j1:j<xs.length:=(by simp at g1;omega);have j2:j<ys.length:=(by simp at g2;omega);have f:=q1 j _ _ (cQ j1) (cQ j2);obtain⟨v1,hv1,X4⟩:=IsL.get h2 (cQ j1);obtain⟨v2,hv2,UT⟩:=IsL.get h4 (cQ j2);obtain⟨u1,Q8,X5⟩:=UR.get hv1;obtain⟨u2,Q9,X6⟩:=Jm.get hv2;have E1:its.toArray[j]=u1:=by have:=dX.mp Q8;obtain⟨_,h⟩:=this;simpa using h
      have E2:its'.toArray[j]=u2:=by have:=dX.mp Q9;obtain⟨_,h⟩:=this;simpa using h
      rw[E1,E2];exact(Gw I n A.in1 _ _ _ _ _ _ _ hu1 X4 UT X5 X6 f).1
     subst e';have R1:=rY.tuples (A:=A) (e:=Q6 (yZ n) xs ys) pl Q7 Tq he;have R2:=rZ.tuples (A:=A) (e:=Q6 (yZ n) xs ys) pl Q7 Tq he;rw[<-s1,<-s2]at R1 R2;exact⟨R1,R2⟩
   refine⟨?_,main⟩
   by_cases ha:a=a'
   ·subst ha
    have:=u4 I (n+1) _ _ _ _ Tt X2 e0;subst this;exact .same _
   ·exact .of_refs ha main.1
  ·exact Jl hx hy rv rQ e
end
section
variable{X:Cx}{E:Str->Hp->Prop}{pos:Pos}
def M1(K:aj)(ne:Bool):R2:=λv w H Q=>∃x y b,Is K Tr H x v/\Is K Tr H y w/\yZ 6 x y=aa b/\Q (.bl (if ne=true then !b else b)) H
def bW(hu:X.A.units+6<rM):qz X (dE .Eq) (M1 X.K false):=by intro pins s σ H v w u u' Q I rx ry h;obtain⟨x,y,b,hx,hy,e,q⟩:=h;exact(Gw I 6 X.A x y v w u u' b hu hx hy rx ry e).2.1 X.prog X.w _ _ ⟨.bl b,H,I,rfl,q⟩
def iM(hu:X.A.units+6<rM):qz X (dE .NotEq) (M1 X.K true):=by intro pins s σ H v w u u' Q I rx ry h;obtain⟨x,y,b,hx,hy,e,q⟩:=h;exact(Gw I 6 X.A x y v w u u' b hu hx hy rx ry e).2.2 X.prog X.w _ _ ⟨.bl (!b),H,I,rfl,q⟩
def j9(x y:D):Option D:=(yZ 6 x y).map .bl
def y6(x y:D):Option D:=(yZ 6 x y).map λb=>.bl (!b)
def bA:ki X (M1 X.K false) j9:=λx y d e=>by
 unfold j9 at e;cases h:yZ 6 x y with
 |none=>rw[h]at e;cases e
 |some b=>
  rw[h]at e;cases e;exact⟨_,rfl,λH v w Q i1 i2 q=>⟨x,y,b,i1,i2,h,q⟩⟩
def gy:ki X (M1 X.K true) y6:=λx y d e=>by
 unfold y6 at e;cases h:yZ 6 x y with
 |none=>rw[h]at e;cases e
 |some b=>
  rw[h]at e;cases e;exact⟨_,rfl,λH v w Q i1 i2 q=>⟨x,y,b,i1,i2,h,q⟩⟩
def bB.u6 {k:Nat}{A:aW}(r:bB k A):A.units+6<rM:=by have:=r.un;omega
end
def Kp(nt:Nat)(b:D->DE->R DE):Prop:=∀(d:D)(r ts e':DE),ts.length=nt->b d (ts++r)=.ok e'->∃ZN,e'=ZN++r/\ZN.length=nt
def kpN{nt:Nat}(i:Nat)(hi:i<nt:=by decide):Kp nt λd env=>.ok (env.set i (.val d)):=λd r ts e' hl h=>by cases h;exact⟨ts.set i (.val d),by rw[List.set_append_left _ _ (by omega)],by simp[hl]⟩
theorem Kp.ok {nt:Nat}{b:D->DE->R DE}(h:Kp nt b):∀ds d e,b d (vY nt ds)=.ok e->∃ts,e=ts++ds.map Sl.val/\ts.length=nt:=λds d e q=>h d _ _ e (by simp) q
structure Df(K:aj)(mg:Str->Option ah)(x:Str)(st:aB)(ps:List Str)(f:ae)(fd:aL):Prop where
 F:Br K x x st f fd
 b:Binds K fd ps []
 m:mg x=aa (.ref f)
 ns:cV K bU x=aa (aa (.ref f))
abbrev Jo:Str->ah:=λ_=>.none
section
variable{X:Cx}{E:Str->Hp->Prop}{pos:Pos}{k:Nat}{fa:ae}{fd:aL}{st:aB}{ps:List Str}{x:Str}{p:Pos}{e:ak}{es:List ak}{f:DE->R (List D)}
def X7{m:List D->R D}(d:Df X.K X.mg x st ps fa fd)(F:fz X.prog X.w X.K X.mg X.base lL k fa fd ps (Gj X.K Jo m))(hr:bB k X.A)
  (ha:PA X (e::es) (Hv X.K E f))(hg:Gl X x:=by rfl)(hdb:(x==("__debug__":Str))=false:=by decide)(he:aq (e::es) X.env=(false,aK e X.env)::aq es X.env:=by rfl)(hpl:(bY pos (aq es X.env)).any (·.1)=false:=by rfl):
  PE X (.Call (.Name x p) (e::es) [] pos) (tD X.K E λenv=>(f env).bind m):=fD F d.m d.F.kp d.b hr sW ha hg hdb he hpl
def Ws(m:List D->R D):Prop:=∀ds d,m ds=.ok d->∃z,toV d=aa z
def ScL(m:List D->R (List D)):Prop:=∀ds xs,m ds=.ok xs->∀d∈xs,∃z,toV d=aa z
def wb{m:List D->R D}(hsc:Ws m)(d:Df X.K X.mg x st ps fa fd)(F:fz X.prog X.w X.K X.mg X.base lL k fa fd ps (Gj X.K Jo m))(hr:bB k X.A)
  (ha:PA X (e::es) (yU X.K E f))(hg:Gl X x:=by rfl)(hdb:(x==("__debug__":Str))=false:=by decide)(he:aq (e::es) X.env=(false,aK e X.env)::aq es X.env:=by rfl)(hpl:(bY pos (aq es X.env)).any (·.1)=false:=by rfl):
  PE X (.Call (.Name x p) (e::es) [] pos) (tD X.K E λenv=>(f env).bind m):=fB F hsc d.m d.F.kp d.b hr sW ha hg hdb he hpl
def ZO{m:List D->R (List D)}(d:Df X.K X.mg x st ps fa fd)(F:fz X.prog X.w X.K X.mg X.base lL k fa fd ps (QX X.K Jo m))(hr:bB k X.A)
  (ha:PA X (e::es) (Hv X.K E f))(hg:Gl X x:=by rfl)(hdb:(x==("__debug__":Str))=false:=by decide)(he:aq (e::es) X.env=(false,aK e X.env)::aq es X.env:=by rfl)(hpl:(bY pos (aq es X.env)).any (·.1)=false:=by rfl):
  PE X (.Call (.Name x p) (e::es) [] pos) (tF X.K E λenv=>(f env).bind m):=fF F d.m d.F.kp d.b hr sW ha hg hdb he hpl
end
abbrev Ok(P:aO)(w:aD)(K:aj)(mg:Str->Option ah)(base:au)(k:Nat)(f:ae)(fd:aL)(ps:List Str)(m:List D->R D):Prop:=fz P w K mg base lL k f fd ps (Gj K Jo m)
abbrev Lw(P:aO)(w:aD)(K:aj)(mg:Str->Option ah)(base:au)(k:Nat)(f:ae)(fd:aL)(ps:List Str)(m:List D->R (List D)):Prop:=fz P w K mg base lL k f fd ps (QX K Jo m)
section
variable{P:aO}{w:aD}{K:aj}{mg:Str->Option ah}{base:au}
def ZP{x:Str}{st:aB}{f:ae}{fd:aL}{N ps:List Str}{k:Nat}{m:List D->R D}{b:DE->R Out}(S:bh N ps (az st))(d:Df K mg x st ps f fd)
  (hb:∀(cdv:ah)(A:aW)(outer:List Env)(s:ai)(H:Hp)(E:XK),bB k (A.deeper (dF x (az st) s.heap.objs.size f cdv))->qG (gn lL P w K mg base N x (az st) f cdv A outer s H E).Cz (dm st) (tS K EN b))
  (hm:∀ds d,m ds=.ok d->ds.length=ps.length/\(b (ao N.length ds)).bind aw=.ok d)(hne:∀ds c,m ds≠.err c):
  Ok P w K mg base (k+1) f fd ps m:=XH d.F S hm hne hb
def mkF{x:Str}{st:aB}{f:ae}{fd:aL}{N ps:List Str}{k:Nat}{m:List D->R (List D)}{b:DE->R Out}(S:bh N ps (az st))(d:Df K mg x st ps f fd)
  (hb:∀(cdv:ah)(A:aW)(outer:List Env)(s:ai)(H:Hp)(E:XK),bB k (A.deeper (dF x (az st) s.heap.objs.size f cdv))->qG (gn lL P w K mg base N x (az st) f cdv A outer s H E).Cz (dm st) (tS K EN b))
  (hm:∀ds d,m ds=.ok d->ds.length=ps.length/\(b (ao N.length ds)).bind aA=.ok d)(hne:∀ds c,m ds≠.err c):
  Lw P w K mg base (k+1) f fd ps m:=XI d.F S hm hne hb
end
section
variable{X:Cx}{E:Str->Hp->Prop}{pos:Pos}
def t6(x y:D):Option D:=match y with
 |.non=>aa (.bl (match x with
  |.non=>true
  |_=>false))
 |_=>none
def Jp(x y:D):Option D:=match y with
 |.non=>aa (.bl (match x with
  |.non=>false
  |_=>true))
 |_=>none
def Gx{K:aj}{P:ae->Prop}{H:Hp}{x:D}{v:V}(h:Is K P H x v):decide (v=V.non)=(match x with
  |.non=>true
  |_=>false):=by
 cases x with
 |non=>cases h;rfl
 |bl _=>cases h;rfl
 |int _=>cases h;rfl
 |str _=>cases h;rfl
 |lst _=>obtain⟨a,vs,rfl,_⟩:=h;rfl
 |tup _=>obtain⟨a,vs,rfl,_⟩:=h;rfl
 |exc _=>obtain⟨a,vs,rfl,_⟩:=h;rfl
 |fn _=>obtain⟨a,rfl,_⟩:=h;rfl
def lQ:ki X (λx y H Q=>y=.non/\Q (.bl (decide (x=.non))) H) t6:=λx y d e=>by
 unfold t6 at e;split at e
 ·cases e
  refine⟨_,rfl,λH v w Q h1 h2 q=>⟨h2,?_⟩⟩;rw[Gx h1];cases x<;>exact q
 ·cases e
def Jq:ki X (λx y H Q=>y=.non/\Q (.bl (!decide (x=.non))) H) Jp:=λx y d e=>by
 unfold Jp at e;split at e
 ·cases e
  refine⟨_,rfl,λH v w Q h1 h2 q=>⟨h2,?_⟩⟩;rw[Gx h1];cases x<;>exact q
 ·cases e
def Jr:fy "range"=aa (.type "range"):=by decide +kernel
end
def dH:D->D->Option D
 |.int i,.int j=>aa (.int (i+j))
 |_,_=>none
def bH{X:Cx}:ki X (D9 λi j=>.int (i+j)) dH:=oH (h:=λi j=>.int (i+j)) (λ_ _=>rfl) λx y d e=>by unfold dH at e;split at e<;>cases e;exact⟨_,_,rfl,rfl,rfl⟩
noncomputable def Pe(Pf sc:cO)(XN N:List Str)(nt:Nat)(caps:List Nat):Bool:=
 sc.kind==.function&&sc.names.all (λy=>y.2 !=.cell&&(y.2 !=.local||sc.names.lookup y.1==aa .local)&&(y.2 !=.free||Pf.names.lookup y.1==aa .cell||Pf.names.lookup y.1==aa .free))&&
 N.length==nt+caps.length&&decide N.Nodup&&(eR caps.length).all λj=>match caps[j]?,N[nt+j]? with
  |some i,aa x=>XN[i]?==aa x&&sc.names.lookup x==aa .free&&(Pf.names.lookup x==aa .local||Pf.names.lookup x==aa .cell||Pf.names.lookup x==aa .free)
  |_,_=>false
def cpS{X:Cx}{sc:cO}{N:List Str}{nt:Nat}{caps:List Nat}(Pf:cO)(XN:List Str)(h:Pe Pf sc XN N nt caps=true)(hsc:X.env.scope=Pf:=by rfl)(hN:X.N=XN:=by rfl):lP X sc N nt caps:=by
 subst hsc hN;unfold Pe at h;simp only [dM,u5,Gy,decide_eq_true_eq,beq_iff_eq,bne_iff_ne,ne_eq]at h;obtain⟨⟨⟨⟨h1,h2⟩,h3⟩,h4⟩,h5⟩:=h;refine⟨by simpa using h1,λy hy=>(h2 y hy).1.1,λy hy e=>?_,λy hy e=>?_,h3,h4,λj i e=>?_⟩
 ·rcases(h2 y hy).1.2 with q|q
  ·exact absurd e q
  ·exact q
 ·rcases(h2 y hy).2 with(q|q)|q
  ·exact absurd e q
  ·exact .inl q
  ·exact .inr q
 ·have hj:j<caps.length:=(dX.mp e).1
  have q:=h5 j (by simpa using hj);rw[e]at q;cases hx:N[nt+j]? with
  |none=>rw[hx]at q;exact absurd q (by simp)
  |some x=>
   rw[hx]at q;simp only [dM,Gy,beq_iff_eq]at q;obtain⟨⟨q1,q2⟩,q3⟩:=q;refine⟨x,rfl,q1,q2,?_⟩;rcases q3 with(q3|q3)|q3
   ·exact .inl q3
   ·exact .inr (.inl q3)
   ·exact .inr (.inr q3)
def X8(i:Nat):Out->R Out
 |.nx e=>.ok (.nx (zM i e))
 |o=>.ok o
theorem BC(i j:Int):dH (.int i) (.int j)=aa (.int (i+j)):=rfl
theorem Js(i j:Int):qN (.int i) (.int j)=aa (.int (i-j)):=rfl
theorem Jt(i:Int):lN (.int i)=aa (.int (-i)):=rfl
theorem Pg(i j:Int):Ep (.int i) (.int j)=aa (.bl (decide (i<j))):=rfl
theorem Ph(i j:Int):Tj (.int i) (.int j)=aa (.bl (decide (i<=j))):=rfl
theorem Pj(i j:Int):Lu (.int i) (.int j)=aa (.bl (decide (j<i))):=rfl
theorem Pk(i j:Int):Tn (.int i) (.int j)=aa (.bl (decide (j<=i))):=rfl
theorem Pn(i j:Int):j9 (.int i) (.int j)=aa (.bl (i==j)):=rfl
theorem Po(i j:Int):y6 (.int i) (.int j)=aa (.bl (!(i==j))):=rfl
theorem Pp(i j:Str):j9 (.str i) (.str j)=aa (.bl (i==j)):=rfl
theorem Pq(i j:Str):y6 (.str i) (.str j)=aa (.bl (!(i==j))):=rfl
def BD(i j:Int)(h:(-(2^64)<i/\i<2^64)\/(-(2^64)<j/\j<2^64)):Eo (.int i) (.int j)=aa (.int (i*j)):=if_pos h
def nY(i j:Int)(h:0<j/\j<1073741824):nW (.int i) (.int j)=aa (.int (i/j)):=if_pos h
def jk(i j:Int)(h:0<j):kR (.int i) (.int j)=aa (.int (i%j)):=if_pos h
def Ra(i j:Int)(h:0<=j/\j<=1000000/\i.natAbs<2^64):Jg (.int i) (.int j)=aa (.int (i^j.toNat)):=if_pos h
theorem Ju(i:Int):tW [.int i]=aa (.int (if i<0 then-i else i)):=rfl
theorem Gz(i j:Int):Gi [.int i,.int j]=aa (.int (if j>i then j else i)):=rfl
theorem Jv(xs:List D):iI [.lst xs]=aa (.int xs.length):=rfl
theorem Jw(xs:List D):iI [.tup xs]=aa (.int xs.length):=rfl
theorem Pr(b:Bool):cK (.bl b)=.ok b:=rfl
theorem Pu(xs:List D):Jf (.lst xs)=.ok xs:=rfl
theorem Pw(i:Int):vX (.int i)=.ok (aa i):=rfl
theorem Px(xs:List D)(i:Int):nX xs (.int i)=R.of (nA xs i):=rfl
theorem Py(xs:List D)(i:Int):mi (.lst xs) (.int i)=R.of (nA xs i):=rfl
theorem Pz(xs:List D)(i:Int):mi (.tup xs) (.int i)=R.of (nA xs i):=rfl
def pQ{α:Type}{xs:List α}(h:xs.length<=aQ):fit xs=.ok xs:=if_pos h
def big{n:Nat}(h:n<=1000000):n<=aQ:=gW h (by decide)
def UU{α:Type}:fit ([]:List α)=.ok []:=pQ (big (by simp))
def UW{α:Type}(a:α):fit [a]=.ok [a]:=pQ (big (by simp))
def UX{α:Type}(a b:α):fit [a,b]=.ok [a,b]:=pQ (big (by simp))
def UY{α:Type}(a b c:α):fit [a,b,c]=.ok [a,b,c]:=pQ (big (by simp))
def UZ{α:Type}(a b c d:α):fit [a,b,c,d]=.ok [a,b,c,d]:=pQ (big (by simp))
def Rb(j:Int)(h: -(2^62)<=j/\j<2^62):Hz [.int j]=.ok (CJ 0 j.toNat):=if_pos h
theorem GA(e:DE)(k:DE->R Out):bF (.ok (.nx e)) k=k e:=rfl
theorem GC(d:D)(k:DE->R Out):bF (.ok (.rt d)) k=.ok (.rt d):=rfl
theorem CP(d:List D)(k:DE->R Out):bF (.ok (.xm d)) k=.ok (.xm d):=rfl
theorem GD(i:Nat)(e:DE):X8 i (.nx e)=.ok (.nx (zM i e)):=rfl
theorem CQ{S:Type}{b:D->DE->R Out}(I:S->Prop)(Ev:S->DE)(step:S->D->S):∀(xs:List D)(s:S),I s->(∀s x,I s->x∈xs->b x (Ev s)=.ok (.nx (Ev (step s x)))/\I (step s x))->iB b xs (Ev s)=.ok (.nx (Ev (xs.foldl step s)))/\I (xs.foldl step s)
 |[],s,hI,h=>⟨rfl,hI⟩
 |x::xs,s,hI,h=>by obtain⟨h1,h2⟩:=h s x hI (by simp);have ih:=CQ I Ev step xs (step s x) h2 λs y hs hy=>h s y hs (by simp[hy]);unfold iB;rw[h1];exact ih
theorem Ew{S:Type}{b:D->DE->R Out}(J:Nat->S->Prop)(Ev:S->DE):∀(xs:List D)(i:Nat)(s:S),J i s->(∀(j:Nat)(s:S)(x:D),J (i+j) s->xs[j]?=aa x->∃s',b x (Ev s)=.ok (.nx (Ev s'))/\J (i+j+1) s')->∃s',iB b xs (Ev s)=.ok (.nx (Ev s'))/\J (i+xs.length) s'
 |[],i,s,hI,h=>⟨s,rfl,hI⟩
 |x::xs,i,s,hI,h=>by
  obtain⟨s1,h1,h2⟩:=h 0 s x hI rfl;obtain⟨s2,h3,h4⟩:=Ew J Ev xs (i+1) s1 (by simpa using h2) λj s y hs hy=>by have e:i+1+j=i+(j+1):=(by omega);rw[e]at hs⊢;exact h (j+1) s y hs (by simpa using hy)
  refine⟨s2,?_,by rw[jE,show i+(xs.length+1)=i+1+xs.length by omega];exact h4⟩;unfold iB;rw[h1];exact h3
def cH(ns:List Int):List D:=ns.map .int
def cz(ns:List Int):(cH ns).length=ns.length:=gX _
def Ck:List D->Option (List Int)
 |[]=>aa []
 |.int i::r=>(Ck r).map (i::·)
 |_::_=>none
def Rc(ns:List Int):Ck (cH ns)=aa ns:=by
 induction ns with
 |nil=>rfl
 |cons x r ih=>show(Ck (cH r)).map (x::·)=_;rw[ih];rfl
theorem wc:∀{xs:List D}{ns:List Int},Ck xs=aa ns->xs=cH ns
 |[],ns,h=>by cases h;rfl
 |.int i::r,ns,h=>by
  unfold Ck at h;cases e:Ck r with
  |none=>rw[e]at h;cases h
  |some ms=>rw[e]at h;cases h;rw[wc e];rfl
 |.non::r,_,h=>by cases h
 |.bl _::r,_,h=>by cases h
 |.str _::r,_,h=>by cases h
 |.lst _::r,_,h=>by cases h
 |.tup _::r,_,h=>by cases h
theorem Ar(n:Nat):∀(a b:List Int),a.length=b.length->uZ (yZ n) (cH a) (cH b)=aa (decide (a=b))
 |[],[],_=>rfl
 |[],_::_,h=>by simp at h
 |_::_,[],h=>by simp at h
 |x::a,y::b,h=>by
  have ih:=Ar n a b (by simpa using h);show(yZ n (.int x) (.int y)).bind _=_;have e:yZ n (.int x) (.int y)=aa (x==y):=by cases n<;>rfl
  rw[e];show(uZ (yZ n) (cH a) (cH b)).map ((x==y)&&·)=_;rw[ih];show aa ((x==y)&&decide (a=b))=aa (decide (x::a=y::b));congr 1;rw[xZ];simp
def CS(n:Nat)(a b:List Int):yZ (n+1) (.lst (cH a)) (.lst (cH b))=aa (decide (a=b)):=by
 show(if(cH a).length=(cH b).length then uZ (yZ n) (cH a) (cH b)else aa false)=_;split
 ·rename_i h
  exact Ar n a b (by simpa[cz]using h)
 ·rename_i h
  congr 1
  symm
  rw[decide_eq_false_iff_not];rintro rfl;exact h rfl
def Jy(a b:List Int):j9 (.lst (cH a)) (.lst (cH b))=aa (.bl (decide (a=b))):=by unfold j9;rw[CS];rfl
def U0(a b:List Int):y6 (.lst (cH a)) (.lst (cH b))=aa (.bl (!decide (a=b))):=by unfold y6;rw[CS];rfl
def BE(ns:List Int)(i:Int):nA (cH ns) i=(nA ns i).map .int:=by
 unfold L2.nA;rw[cz];cases Hq ns.length i with
 |none=>rfl
 |some j=>exact dZ
def gz(ns:List Int)(lo hi:Option Int):cut (cH ns) lo hi=cH (cut ns lo hi):=by unfold cut;rw[cz];simp only [cH,M4,M5]
def M6(lo:Int)(n:Nat):CJ lo n=cH ((eR n).map λi=>lo+(i:Nat)):=by unfold CJ cH;rw[M7];rfl
def bN(i:Nat)(d:D)(env:DE):R DE:=.ok (env.set i (.val d))
def Jz:List D->DE->R DE
 |[],env=>.ok env
 |_::_,_=>.bad
def xn(b:D->DE->R DE)(k:List D->DE->R DE):List D->DE->R DE
 |d::r,env=>(b d env).bind λe'=>k r e'
 |[],_=>.bad
def bT(n:Nat)(b:List D->DE->R DE):D->DE->R DE
 |.tup ds,env=>if ds.length=n then b ds env else .bad
 |_,_=>.bad
def Rf(i:Nat)(env:DE)(xs:List D)(d:D):R Out:= @ite _ (xs.length<aQ) (jK _) (.ok (.nx (env.set i (.own (xs++[d]))))) (.bad)
section
variable{X:Cx}{E:Str->Hp->Prop}{pos:Pos}
def Iw(i:Nat){x:Str}(hN:X.N.Nodup)(hi:X.N[i]?=aa x:=by rfl)(hx:Loc X.env.scope x:=by first|exact cD rfl|exact b9 rfl)(hf:X.fn x=true\/X.env.scope.names.lookup x=aa .local:=by first|exact .inl rfl|exact .inr rfl|assumption):
  PG X (.Name x pos) (tG X.K E (bN i)):=gN i hN hi hx hf
def JA:FG X [] (O8 X.K E Jz):=by
 have e:Jz=λds env=>match ds with
  |[]=>.ok env
  |_=>.bad:=by funext ds env;cases ds<;>rfl
 rw[e];exact UD
def yy{e:ak}{es:List ak}{b:D->DE->R DE}{k:List D->DE->R DE}(h1:PG X e (tG X.K E b))(h2:FG X es (O8 X.K E k))(hs:(jb (e::es) X.env).map (·.2)=xX e X.env::(jb es X.env).map (·.2):=by rfl):
  FG X (e::es) (O8 X.K E (xn b k)):=by
 have e':xn b k=λds env=>match ds with
   |d::r=>(b d env).bind λe'=>k r e'
   |_=>.bad:=by funext ds env;cases ds<;>rfl
 rw[e'];exact Q0 h1 h2 hs
def ZQ{es:List ak}{kk:Nat}{b:List D->DE->R DE}(n:Nat)(hc:X.calm=true)(h:FG X es (O8 X.K E b))(hn:(jb es X.env).length=n:=by rfl)(hst:(jb es X.env).findIdx? (·.1)=none:=by rfl):
  PG X (.Tuple es kk pos) (tG X.K E (bT n b)):=by
 have e':bT n b=λd env=>match d with
   |.tup ds=>if ds.length=n then b ds env else .bad
   |_=>.bad:=by funext d env;cases d<;>rfl
 rw[e'];exact gT hc h hn hst
def X9{nt:Nat}(i:Nat)(hi:i<nt:=by decide):Kp nt (bN i):=kpN i hi
def U1(i:Nat){x:Str}{e:ak}{f:DE->R D}{p apos fR:Pos}(he:PE X e (tD X.K E f))(hN:X.N[i]?=aa x:=by rfl)(hv:D5 X.env.scope x:=by first|exact cD rfl|exact b9 (cD rfl)|exact b9 (b9 rfl))(hd:(x==("__debug__":Str))=false:=by decide)
  (hcd:(x==("__classdict__":Str))=false:=by decide)
  (hbase:uI (.Name x p) "append" X.env (aK (.Name x p) X.env)=aK (.Name x p) X.env:=by rfl)
  (hfew:((bY fR (aq [e] X.env)).all (λx=> !x.1)&&(nv fR (nz [] X.env)).all (λx=>x.1.isSome)
   &&decide ([e].length+([]:List uR).length+(if([]:List uR).isEmpty then 0 else 1)<30))=true:=by rfl)
  (hline:(apos.endLine==fR.line)=true:=by rfl)(hst:aq [e] X.env=(false,aK e X.env)::aq [] X.env:=by rfl)(hplain:(bY fR (aq [] X.env)).any (·.1)=false:=by rfl)
  (hs:jB (.Call (.Attribute (.Name x p) "append" apos) [e] [] fR) none pos.line X.env=bJ false:=by rfl):
  PS X (.Expr (.Call (.Attribute (.Name x p) "append" apos) [e] [] fR) pos) (tS X.K E λenv=>(ownAt i env).bind λxs=>(f env).bind λd=>Rf i env xs d):=XD i he hN hv hd hcd hbase hfew hline hst hplain hs
end
def Ey(d:D):R D:=match toV d with
 |some _=>.ok d
 |none=>.bad
def y7{x d:D}(h:Ey x=.ok d):x=d/\∃z,toV d=aa z:=by
 unfold Ey at h;cases e:toV x with
 |none=>rw[e]at h;cases h
 |some z=>rw[e]at h;cases h;exact⟨rfl,z,e⟩
def Iz:List D->R (List D)
 |[]=>.ok []
 |x::r=>(Ey x).bind λy=>(Iz r).bind λys=>.ok (y::ys)
theorem Ez:∀{xs ys:List D},Iz xs=.ok ys->xs=ys/\∀d∈ys,∃z,toV d=aa z
 |[],ys,h=>by cases h;exact⟨rfl,λd hd=>nomatch hd⟩
 |x::r,ys,h=>by unfold Iz at h;obtain⟨y,h1,h2⟩:=R.kE h;obtain⟨zs,h3,h4⟩:=R.kE h2;cases h4;obtain⟨rfl,hz⟩:=y7 h1;obtain⟨rfl,hs⟩:=Ez h3;exact⟨rfl,λd hd=>(bR.mp hd).elim (λe=>by rw[e];exact hz) (hs d)⟩
theorem PC(i:Int):Ey (.int i)=.ok (.int i):=rfl
theorem PD(i:Bool):Ey (.bl i)=.ok (.bl i):=rfl
theorem PF(i:Str):Ey (.str i)=.ok (.str i):=rfl
theorem PH:Ey .non=.ok .non:=rfl
def u7(ns:List Int):Iz (cH ns)=.ok (cH ns):=by
 induction ns with
 |nil=>rfl
 |cons x r ih=>show(Ey (.int x)).bind (λy=>(Iz (cH r)).bind λys=>.ok (y::ys))=_;rw[ih];rfl
def mD(n N:Nat)(b:DE->R Out)(ds:List D):R D:=if ds.length=n then((b (ao N ds)).bind aw).ne else .bad
def mS(n N:Nat)(b:DE->R Out)(ds:List D):R D:=if ds.length=n then(((b (ao N ds)).bind aw).bind Ey).ne else .bad
def mF(n N:Nat)(b:DE->R Out)(ds:List D):R (List D):=if ds.length=n then((b (ao N ds)).bind aA).ne else .bad
def aY(n N:Nat)(b:DE->R Out)(ds:List D):R (List D):=if ds.length=n then(((b (ao N ds)).bind aA).bind Iz).ne else .bad
def R.Cu {α:Type}{r:R α}{a:α}(h:r.ne=.ok a):r=.ok a:=by
 cases r with
 |ok b=>exact h
 |err c=>cases h
 |bad=>cases h
def R.Au {α:Type}{r:R α}{c:Str}:r.ne≠.err c:=by cases r<;>intro h<;>cases h
def we{n N:Nat}{b:DE->R Out}:Ws (mS n N b):=λds d h=>by
 unfold mS at h;split at h
 ·obtain⟨x,_,h2⟩:=R.kE (R.Cu h)
  exact(y7 h2).2
 ·cases h
section
variable{P:aO}{w:aD}{K:aj}{mg:Str->Option ah}{base:au}
variable{x:Str}{st:aB}{f:ae}{fd:aL}{N ps:List Str}{k:Nat}{b:DE->R Out}
def Yb(S:bh N ps (az st))(d:Df K mg x st ps f fd)
  (hb:∀(cdv:ah)(A:aW)(outer:List Env)(s:ai)(H:Hp)(E:XK),bB k (A.deeper (dF x (az st) s.heap.objs.size f cdv))->qG (gn lL P w K mg base N x (az st) f cdv A outer s H E).Cz (dm st) (tS K EN b)):
  Ok P w K mg base (k+1) f fd ps (mD ps.length N.length b):=ZP S d hb (λds e h=>by
 unfold mD at h;split at h
 ·rename_i c
  exact⟨c,R.Cu h⟩
 ·cases h) λds c h=>by
 unfold mD at h;split at h
 ·exact R.Au h
 ·cases h
def BF(S:bh N ps (az st))(d:Df K mg x st ps f fd)
  (hb:∀(cdv:ah)(A:aW)(outer:List Env)(s:ai)(H:Hp)(E:XK),bB k (A.deeper (dF x (az st) s.heap.objs.size f cdv))->qG (gn lL P w K mg base N x (az st) f cdv A outer s H E).Cz (dm st) (tS K EN b)):
  Ok P w K mg base (k+1) f fd ps (mS ps.length N.length b):=ZP S d hb (λds e h=>by
 unfold mS at h;split at h
 ·rename_i c
  obtain⟨y,h1,h2⟩:=R.kE (R.Cu h);obtain⟨rfl,_⟩:=y7 h2;exact⟨c,h1⟩
 ·cases h) λds c h=>by
 unfold mS at h;split at h
 ·exact R.Au h
 ·cases h
def U3(S:bh N ps (az st))(d:Df K mg x st ps f fd)
  (hb:∀(cdv:ah)(A:aW)(outer:List Env)(s:ai)(H:Hp)(E:XK),bB k (A.deeper (dF x (az st) s.heap.objs.size f cdv))->qG (gn lL P w K mg base N x (az st) f cdv A outer s H E).Cz (dm st) (tS K EN b)):
  Lw P w K mg base (k+1) f fd ps (aY ps.length N.length b):=mkF S d hb (λds e h=>by
 unfold aY at h;split at h
 ·rename_i c
  obtain⟨y,h1,h2⟩:=R.kE (R.Cu h);obtain⟨rfl,_⟩:=Ez h2;exact⟨c,h1⟩
 ·cases h) λds c h=>by
 unfold aY at h;split at h
 ·exact R.Au h
 ·cases h
end
section
variable{d:D}{xs:List D}{r:DE}{a:Sl}{i:Nat}
theorem PJ:fS 0 (.val d::r)=.ok d:=rfl
theorem PK:fS (i+1) (a::r)=fS i r:=rfl
theorem PL:aU 0 (.val d::r)=.ok d:=rfl
theorem JB:aU 0 (.own xs::r)=.ok (.lst xs):=rfl
theorem PN:aU (i+1) (a::r)=aU i r:=rfl
theorem PQ:iR 0 (.val (.lst xs)::r)=.ok xs:=rfl
theorem JC:iR 0 (.own xs::r)=.ok xs:=rfl
theorem PR:iR (i+1) (a::r)=iR i r:=rfl
theorem PU:ownAt 0 (.own xs::r)=.ok xs:=rfl
theorem PV:ownAt (i+1) (a::r)=ownAt i r:=rfl
theorem PX:zM 0 (.own xs::r)=.val (.lst xs)::r:=rfl
def PY:zM (i+1) (a::r)=a::zM i r:=by
 unfold zM;rw[List.getElem?_cons_succ];cases e:r[i]? with
 |none=>rfl
 |some sl=>cases sl<;>rfl
end
theorem ZR(i j:Nat)(a b:D)(env:DE):bT 2 (xn (bN i) (xn (bN j) Jz)) (.tup [a,b]) env=.ok ((env.set i (.val a)).set j (.val b)):=rfl
theorem CT(i:Nat)(a:D)(env:DE):bN i a env=.ok (env.set i (.val a)):=rfl
def fH{ns:List Int}(h:ns.length<=1000000):fit (cH ns)=.ok (cH ns):=pQ (by rw[cz];exact big h)
def fP(a b:List Int):cH a++cH b=cH (a++b):=(u9 ..).symm
theorem yS(n d:Nat):HT.jy n d none=d:=rfl
def uN(n d:Nat)(i:Int)(h:0<=i):HT.jy n d (aa i)=min i.toNat n:=by unfold HT.jy;dsimp only;split<;>omega
def kX{α:Type}(xs:List α)(m:Int)(h:0<=m):cut xs none (aa m)=xs.take m.toNat:=by
 unfold cut;rw[yS,uN _ _ _ h,Gk,Nat.sub_zero];rcases BG m.toNat xs.length with q|q
 ·rw[BH q]
 ·rw[BI q,List.take_length,vc q]
def iW{α:Type}(xs:List α)(m:Int)(h:0<=m):cut xs (aa m) none=xs.drop m.toNat:=by
 unfold cut;rw[yS,uN _ _ _ h];rcases BG m.toNat xs.length with q|q
 ·rw[BH q,vc (by rw[d7];exact bZ _)]
 ·rw[BI q,Nat.sub_self,List.take_zero,GF q]
def BJ{α:Type}(xs:List α)(a b:Int)(h:0<=a)(h2:0<=b):cut xs (aa a) (aa b)=(xs.drop a.toNat).take (b.toNat-a.toNat):=by
 unfold cut;rw[uN _ _ _ h,uN _ _ _ h2];rcases BG a.toNat xs.length with q|q
 ·rw[BH q]
  rcases BG b.toNat xs.length with q2|q2
  ·rw[BH q2]
  ·rw[BI q2,vc (by rw[d7];exact bZ _),vc (by rw[d7];omega)]
 ·rw[BI q,GF (bZ _),GF q,M8,M8]
def Av{cells:List Int}{j:Nat}{x:D}(h:(jo (cH cells))[j]?=aa x):∃c,cells[j]?=aa c/\x=.tup [.int (j:Nat),.int c]:=by
 obtain⟨d,hd,rfl⟩:=Aq h;unfold cH at hd;rw[dZ]at hd;cases q:cells[j]? with
 |none=>rw[q]at hd;cases hd
 |some c=>rw[q]at hd;cases hd;exact⟨c,rfl,rfl⟩
def HC(xs:List D):(jo xs).length=xs.length:=by simp[jo]
def M9{i:Nat}{env:DE}{xs:List D}{d:D}(h:xs.length<1000000):Rf i env xs d=.ok (.nx (env.set i (.own (xs++[d])))):=if_pos (fk h (by decide))
def pR{α:Type}{xs:List α}{j:Int}(h:0<=j):nA xs j=xs[j.toNat]?:=by
 unfold L2.nA L2.Hq;rw[if_pos h];split
 ·rfl
 ·rename_i c
  symm
  show _=none;rw[Na];omega
theorem PZ(T:String)(i:Int):qO T (.int i)=.ok (.bl (j8 (sJ (.int i)) T)):=rfl
theorem P1(T:String)(i:Bool):qO T (.bl i)=.ok (.bl (j8 (sJ (.bl i)) T)):=rfl
theorem P4(T:String)(i:Str):qO T (.str i)=.ok (.bl (j8 (sJ (.str i)) T)):=rfl
theorem P5(T:String):qO T .non=.ok (.bl (j8 (sJ .non) T)):=rfl
theorem P6(T:String)(i:List D):qO T (.lst i)=.ok (.bl (j8 (sJ (.lst i)) T)):=rfl
theorem P7(T:String)(i:List D):qO T (.tup i)=.ok (.bl (j8 (sJ (.tup i)) T)):=rfl
def bp:(type_of% @jE.{0})/\(type_of% @yz.{0})/\(type_of% @nk.{0,0})/\(type_of% @yo.{0,0})/\(type_of% @Nb.{0})/\(type_of% @Nc.{0})/\(type_of% @Nd.{0})/\(type_of% @Nf.{0})/\(type_of% @if_true.{1})/\(type_of% @ite_true.{1})/\(type_of% @BB)/\(type_of% @Ng)/\(type_of% @PJ)/\(type_of% @PK)/\(type_of% @PL)/\(type_of% @JB)/\(type_of% @PN)/\(type_of% @PQ)/\(type_of% @JC)/\(type_of% @PR):=⟨@jE.{0},@yz.{0},@nk.{0,0},@yo.{0,0},@Nb.{0},@Nc.{0},@Nd.{0},@Nf.{0},@if_true.{1},@ite_true.{1},@BB,@Ng,@PJ,@PK,@PL,@JB,@PN,@PQ,@JC,@PR⟩
def br:(type_of% @PU)/\(type_of% @PV)/\(type_of% @PX)/\(type_of% @PY)/\(type_of% @Nh.{0})/\(type_of% @Ni.{0})/\(type_of% @R.cg)/\(type_of% @R.jJ)/\(type_of% @R.Ji)/\(type_of% @Pr)/\(type_of% @Pu)/\(type_of% @Pw)/\(type_of% @BC)/\(type_of% @Js)/\(type_of% @Jt)/\(type_of% @Pg)/\(type_of% @Ph)/\(type_of% @Pj)/\(type_of% @Pk)/\(type_of% @Pn):=⟨@PU,@PV,@PX,@PY,@Nh.{0},@Ni.{0},@R.cg,@R.jJ,@R.Ji,@Pr,@Pu,@Pw,@BC,@Js,@Jt,@Pg,@Ph,@Pj,@Pk,@Pn⟩
def bu:(type_of% @Po)/\(type_of% @Pp)/\(type_of% @Pq)/\(type_of% @Ju)/\(type_of% @Gz)/\(type_of% @Jv)/\(type_of% @Jw)/\(type_of% @Px)/\(type_of% @Py)/\(type_of% @Pz)/\(type_of% @UU)/\(type_of% @UW)/\(type_of% @UX)/\(type_of% @UY)/\(type_of% @UZ)/\(type_of% @GA)/\(type_of% @GC)/\(type_of% @CP)/\(type_of% @PC)/\(type_of% @PD):=⟨@Po,@Pp,@Pq,@Ju,@Gz,@Jv,@Jw,@Px,@Py,@Pz,@UU,@UW,@UX,@UY,@UZ,@GA,@GC,@CP,@PC,@PD⟩
def bw:(type_of% @PF)/\(type_of% @PH)/\(type_of% @GD)/\(type_of% @PZ)/\(type_of% @P1)/\(type_of% @P4)/\(type_of% @P5)/\(type_of% @P6)/\(type_of% @P7):=⟨@PF,@PH,@GD,@PZ,@P1,@P4,@P5,@P6,@P7⟩
section
variable{X:Cx}{E:Str->Hp->Prop}{pos:Pos}
def Wt:D->R (List D)
 |.tup xs=>.ok xs
 |_=>.bad
def JD(x:D)(lo hi:Option Int):R D:=match x with
 |.tup xs=>if HT.jy xs.length 0 lo=0/\HT.jy xs.length xs.length hi=xs.length then .bad else .ok (.tup (cut xs lo hi))
 |_=>.bad
def Rg{e:ak}{lo hi:Option ak}{f:DE->R D}{fl fh:DE->R (Option Int)}{p2:Pos}(he:PE X e (tD X.K E f))(hl:L2.PO X lo (tO X.K E fl))(hh:L2.PO X hi (tO X.K E fh)):
  PE X (.Subscript e (.Slice lo hi none p2) pos) (tD X.K E λenv=>(f env).bind λx=>(fl env).bind λl=>(fh env).bind λh=>JD x l h):=
 imp (qL QM he hl hh) λσ H Q ⟨g,env,os,r,m⟩=>⟨g,env,os,r,m.bind.mono λx _ m1 v1 H1 s1 i1=>⟨g,env,os,r.same s1,m1.bind.mono λl _ m2 H2 s2=>⟨g,env,os,r.same (s1.trans s2),m2.bind.mono λh _ m3 H3 s3=>by
  unfold JD at m3;split at m3
  ·rename_i xs
   split at m3
   ·exact m3.elim
   ·rename_i c
    have i3:=(i1.same s2).same s3;obtain⟨a,vs,rfl,h1,h2⟩:=i3;refine⟨a,vs,rfl,h1.sq,by rw[IsL.length h2];exact c,λp hp=>?_⟩;have sm:=s1.trans (s2.trans s3);exact m3 _ _ (sm.trans (d8 hp _)) ⟨p,_,rfl,.inl ⟨(r.same sm).fresh hp,.inl aV⟩,(IsL.cut h2 l h).same (d8 hp _)⟩
  ·exact m3.elim⟩⟩⟩
def iT{tg e:ak}{f:DE->R D}(he:PE X e (tD X.K E f)):PI X tg e (tI X.K E λenv=>(f env).bind Wt):=
 MP (QC he) λσ H Q ⟨g,env,os,r,m⟩=>⟨g,env,os,r,m.bind.mono λd _ q v H' s i=>by
  cases d with
  |tup xs=>
   obtain⟨a,vs,rfl,h1,h2⟩:=i;refine⟨a,rfl,⟨vs,h1.sq⟩,q _ H' s λj H2 P' ex=>⟨λd hd=>?_,λhj=>?_⟩⟩
   ·obtain⟨x,hx,hi⟩:=(IsL.ext ex _ _ h2).get hd
    refine⟨⟨vs,x,(h1.ext ex).sq,hx⟩,λy H3 hy=>?_⟩;obtain⟨rfl,hy⟩:=hy;have e2:=hy vs (h1.ext ex).sq;rw[hx]at e2;cases e2;exact⟨bS.refl _,Is.ext ⟨λ_ _ p _=>.inl p,λ_ _ _ z=>z⟩ _ _ hi⟩
   ·exact⟨vs,(h1.ext ex).sq,by rw[IsL.length h2];exact pI hj⟩
  |non=>exact q.elim
  |bl _=>exact q.elim
  |int _=>exact q.elim
  |str _=>exact q.elim
  |exc _=>exact q.elim
  |fn _=>exact q.elim
  |lst _=>exact q.elim⟩
end
theorem CU(xs:List D):Wt (.tup xs)=.ok xs:=rfl
theorem Rh:t6 .non .non=aa (.bl true):=rfl
def DV(fs xs:List ae)(h h':au):Prop:=∀b o,h.get? b=aa o->b∉xs->(b∉fs->h'.get? b=aa o)/\∃sl,h'.get? b=aa {o with slots:=sl}
def DV.trans {fs xs ys zs:List ae}{h h1 h2:au}(a:DV fs xs h h1)(b:DV fs ys h1 h2)(s1:∀c∈xs,c∈zs)(s2:∀c∈ys,c∈zs):DV fs zs h h2:=λc o e hn=>by obtain⟨p1,sl,p2⟩:=a c o e λz=>hn (s1 c z);obtain⟨q1,Wu,q2⟩:=b c _ p2 λz=>hn (s2 c z);refine⟨λhf=>?_,Wu,q2⟩;exact(b c o (p1 hf) λz=>hn (s2 c z)).1 hf
def DV.of_eq {fs xs:List ae}{h h':au}(k:∀b o,h.get? b=aa o->b∉xs->h'.get? b=aa o):DV fs xs h h':=λb o e hn=>⟨λ_=>k b o e hn,o.slots,k b o e hn⟩
structure Exc(h:au)(e T C:ae)(fl:ah):Prop where
 at_:∃vs,h.get? e=aa {cls:=.ref C,data:=.fields vs}/\vs[1]?=aa (.ref T)
 ne:T≠e
 tb:∃oT ts,h.get? T=aa oT/\oT.data=.fields ts/\ts[3]?=aa fl
section
variable{M:uE}{A:aW}{E:ah->ai->Prop}{s:ai}{base:au}{env:Env}{outer:List Env}{L e T C:ae}{Q:Unit->ai->Prop}
def yA{fl:ah}(x:Exc s.heap e T C fl)(hQ:∀h',Exc h' e T C .none->DV [] [T] s.heap h'->Q () {s with heap:=h'}):aF M A (setFlight (.ref e) none) Q E s:=by
 obtain⟨⟨vs,x1,x2⟩,x3,oT,ts,x4,x5,x6⟩:=x;have y3:3<ts.size:=(BK.mp x6).1;unfold setFlight;refine aP (rP x1 rfl x2 ?_);rw[if_pos (show(aS T !=ah.none)=true from rfl)];refine GG x4 x5 y3 (hQ _ ?_ (.of_eq λb o q hn=>?_))
 ·refine⟨⟨vs,?_,x2⟩,x3,_,_,GH _ x4 (Nj (GJ x5 _)),GJ x5 _,by simp[y3]⟩
  rw[rS _ _ x3];exact x1
 ·rw[rS _ _ (λz=>hn (by simp[z]))]
  exact q
def Aw{head:ah}{vs:Array ah}{nx:Bool}(hfr:A.frames=aa (env::outer))(hl:s.heap.FunFrames base (env::outer))(hf:env.frame=aa L)
  (he:s.heap.get? e=aa {cls:=.ref C,data:=.fields vs})(hz:1<vs.size)
  (hQ:∀h' T',s.heap.get? T'=none->Exc h' e T' C (pA L)->DV ((env::outer).filterMap (·.frame)) [e] s.heap h'->Q () {s with heap:=h'}):
  aF M A (do let fo<-frameOf env;let pl<-entryPlaceOf L nx;let en<-Nk head fo .none (pA L) .none pl;setField (.ref e) 1 en) Q E s:=by
 have out:e∉(env::outer).filterMap (·.frame):=λz=>by obtain⟨_,o,q,nf⟩:=hl.mem z;rw[he]at q;cases q;exact nf vs rfl
 refine aP (wpAny_frameOf_fun hfr hl hf λhA sA=>aP (wpAny_entryPlaceOf λpl ip=>?_));unfold Nk newFields;refine aP (uQ ?_ (ip.sizeOk5 _ _ _ _ _));have eA:hA.get? e=aa {cls:=.ref C,data:=.fields vs}:=(sA.2.1 e out).trans he;have eB:=ej (h:=hA) {cls:=.type "traceback",dict:=none,data:=.fields ([head,.ref L,.none,pA L,.none]++(if pl.isEmpty then gx 6 ah.none else pl)).toArray} eA;have nT:hA.objs.size≠e:=AV (cy eA);refine GG eB rfl hz (hQ _ hA.objs.size (Fw (pI sA.1.symm)) ⟨⟨vs.setIfInBounds 1 (.ref hA.objs.size),?_,by simp[hz]⟩,nT,?_⟩ λb o q hn=>?_)
 ·rw[GH _ eB rfl]
  rfl
 ·refine⟨_,_,(rS _ _ (eT nT)).trans (jC hA rfl),rfl,?_⟩
  simp
 ·have hb:e≠b:=λz=>hn (by simp[z])
  obtain⟨sl,q2⟩:=sA.2.2 b o q;refine⟨λnf=>?_,sl,?_⟩
  ·rw[rS _ _ hb]
   exact ej _ ((sA.2.1 b nf).trans q)
  ·rw[rS _ _ hb]
   exact ej _ q2
def HD{vs:Array ah}(hfr:A.frames=aa (env::outer))(hl:s.heap.FunFrames base (env::outer))(hf:env.frame=aa L)
  (he:s.heap.get? e=aa {cls:=.ref C,data:=.fields vs})(h1:vs[1]?=aa .none)
  (hQ:∀h' T',s.heap.get? T'=none->Exc h' e T' C (pA L)->DV ((env::outer).filterMap (·.frame)) [e] s.heap h'->Q () {s with heap:=h'}):aF M A (yw (.ref e) env) Q E s:=by
 unfold yw;simp only [hf];refine aP (rP he rfl h1 ?_);rw[if_neg (by decide)];exact Aw hfr hl hf he (BK.mp h1).1 hQ
def CV(hfr:A.frames=aa (env::outer))(hl:s.heap.FunFrames base (env::outer))(hf:env.frame=aa L)(x:Exc s.heap e T C .none)
  (hQ:∀h' T',s.heap.get? T'=none->Exc h' e T' C (pA L)->DV ((env::outer).filterMap (·.frame)) [e,T] s.heap h'->Q () {s with heap:=h'}):aF M A (yw (.ref e) env) Q E s:=by
 obtain⟨⟨vs,x1,x2⟩,x3,oT,ts,x4,x5,x6⟩:=x;unfold yw;simp only [hf];refine aP (rP x1 rfl x2 ?_);rw[if_pos (show(aS T !=ah.none)=true from rfl)];refine aP (rP x4 x5 x6 ?_);rw[if_neg (show¬((ah.none==pA L)=true)from λz=>by simp[pA]at z)];refine aP (GG x4 x5 (BK.mp x6).1 ?_);have oth:∀b,b≠T->(s.heap.update T (BL (·.setIfInBounds 3 ah.none))).get? b=s.heap.get? b:=λb z=>rS _ _ (eT z);have hl2:(s.heap.update T (BL (·.setIfInBounds 3 ah.none))).FunFrames base (env::outer):=hl.of_keeps λb o q nf=>⟨o,(oth b λz=>by rw[z,x4]at q;cases q;exact nf ts x5).trans q,rfl⟩
 refine Aw (s:={s with heap:=s.heap.update T (BL (·.setIfInBounds 3 ah.none))}) hfr hl2 hf ((oth e (eT x3)).trans x1) (BK.mp x2).1 λh' T' n1 n2 n3=>hQ h' T' ?_ n2 ?_
 ·by_cases z:T'=T
  ·have ZS:(s.heap.update T (BL (·.setIfInBounds 3 ah.none))).get? T'=none:=n1
   rw[z,GH _ x4 (Nj (GJ x5 _))]at ZS;cases ZS
  ·exact(oth T' z).symm.trans n1
 ·refine DV.trans (xs:=[T]) (ys:=[e]) (.of_eq λb o q hn=>(oth b λz=>hn (by simp[z])).trans q) n3 ?_ ?_
  ·intro c hc;simp at hc;simp[hc]
  ·intro c hc;simp at hc;simp[hc]
end
section
variable{P:aO}{w:aD}{H H':Hp}{h h1 h2:au}{fs V5 xs:List ae}
def Ri{a:ae}{o:HO}(x:gK P w H h a o):∃ob,h.get? a=aa ob:=by
 cases o with
 |lst xs=>obtain⟨_,_,_,_,e⟩:=x;exact⟨_,e⟩
 |tup xs=>obtain⟨_,_,_,p⟩:=x;obtain⟨o,e,_⟩:=p;exact⟨_,e⟩
 |dK kvs=>obtain⟨_,_,_,_,o,_,_,e,_⟩:=x;exact⟨_,e⟩
 |dT kvs=>obtain⟨_,_,_,_,o,_,_,e,_⟩:=x;exact⟨_,e⟩
 |set S n=>obtain⟨o,_,_,_,e,_⟩:=x;exact⟨_,e⟩
 |ins C dx fs=>obtain⟨_,_,_,e,_⟩:=x;exact⟨_,e⟩
 |own y=>exact x
 |xd fs=>obtain⟨_,⟨_,_,_,e,_⟩,_⟩:=x;exact⟨_,e⟩
 |V3 lo hi=>obtain⟨_,_,_,e⟩:=x;exact⟨_,e⟩
 |zM ob u=>obtain⟨e,_⟩:=x;exact⟨_,e⟩
 |OW ps=>exact⟨_,(show h.get? a=aa _ from x)⟩
 |met f y=>exact⟨_,(show h.get? a=aa _ from x)⟩
 |ext φ=>exact x.2.1
def iC(x:sU P w H h){a:ae}(e:h.get? a=none):H a=none:=by
 cases q:H a with
 |none=>rfl
 |some o=>
  obtain⟨ob,z⟩:=Ri (x a o q);rw[e]at z;cases z
def EA(u:Un fs [] H H' h h1)(k:DV V5 xs h1 h2)(hx:∀b∈xs,h.get? b=none)(hf:∀b∈V5,b∈fs\/h.get? b=none):Un fs [] H H' h h2 where
 keep:=λb o e n hb hc=>(k b o (u.keep b o e n hb hc) λz=>by rw[hx b z]at e;cases e).1 λz=>(hf b z).elim hb λq=>by rw[q]at e;cases e
 slot:=λb o e n hb hc=>by
  obtain⟨sl,q⟩:=u.slot b o e n hb hc;obtain⟨_,Wu,q2⟩:=k b _ q λz=>by rw[hx b z]at e;cases e
  exact⟨Wu,q2⟩
 free:=u.free
 there:=λb o e hc=>by
  obtain⟨o',q⟩:=u.there b o e hc;obtain⟨_,Wu,q2⟩:=k b _ q λz=>by rw[hx b z]at e;cases e
  exact⟨_,q2⟩
 tups:=u.tups
 vR:=u.vR
 xD:=u.xD
def BN(x:sU P w H h1)(k:DV fs xs h1 h2)(hx:∀b∈xs,H b=none)(hf:∀b∈fs,H b=none):sU P w H h2:=λa o e=>by
 have no:∀b u,H b=aa u->b∉xs/\b∉fs:=λb u q=>⟨λz=>(by rw[hx b z]at q;cases q),λz=>(by rw[hf b z]at q;cases q)⟩
 refine(x a o e).zP (λb u hb q=>?_) (λ_ q=>q) λ_ _ q=>q;have nb:b∉xs/\b∉fs:=by
  rcases hb with z|z
  ·rw[z];exact no a o e
  ·exact no b _ z
 exact(k b u q nb.1).1 nb.2
def jz(P:aO)(w:aD):Hl:=λouter H s E ev s'=>∃e T C H',ev=.ref e/\Exc s'.heap e T C .none/\s.heap.get? e=none/\s.heap.get? T=none/\H' e=none/\H' T=none/\s'.os=s.os/\ku s'.gens/\
 Un (Cv outer) [] H H' s.heap s'.heap/\sU P w H' s'.heap/\E (.ref C) none H'
end
section
variable{P:aO}{w:aD}{K:aj}{mg:Str->Option ah}{base:au}{N:List Str}{qual:Str}{scope:cO}{f:ae}{cd:ah}{A:aW}{outer:List Env}{s:ai}{H:Hp}{E:XK}
def pS{fs:List ae}{H H':Hp}{h h':au}(u:Un fs [] H H' h h'){b:ae}(e:h'.get? b=none):h.get? b=none:=by
 cases q:h.get? b with
 |none=>rfl
 |some o=>
  obtain⟨o',z⟩:=u.there b o q (by simp);rw[e]at z;cases z
def JE{pins:List (ae×Obj)}{σ:St}{H1 H2:Hp}{s1 s2:ai}{e C:ae}(I:Inv (gn (jz P w) P w K mg base N qual scope f cd A outer s H E) pins σ H1 s1)
  (n1:s1.heap.get? e=none)(h2e:H2 e=none)(ho:s2.os=s1.os)(hb:ku s2.gens)(un:Un (Cv (dF qual scope s.heap.objs.size f cd::outer)) [] H1 H2 s1.heap s2.heap)(hok:sU P w H2 s2.heap)(hE:E (.ref C) none H2)
  {h':au}{T':ae}(xs:List ae)(hxs:∀b∈xs,s1.heap.get? b=none)(hxh:∀b∈xs,H2 b=none)(k:DV ((dF qual scope s.heap.objs.size f cd::outer).filterMap (·.frame)) xs s2.heap h')(hT:s1.heap.get? T'=none)(hTh:H2 T'=none)(hx:Exc h' e T' C .none):
  jz P w outer H s E (.ref e) {s2 with heap:=h'}:=by
 have I2:Inv (gn (jz P w) P w K mg base N qual scope f cd A outer s H E) pins σ H2 s2:=I.Ag ho un hok hb (λb z=>nomatch z);have fr:∀b∈(dF qual scope s.heap.objs.size f cd::outer).filterMap (·.frame),b∈Cv outer\/s.heap.get? b=none:=λb hb=>by
  rcases bR.mp (I2.yM b hb)with z|z
  ·refine .inr ?_
   have hn:(s.heap.get? b)=none:=by rw[z];exact Fw (bZ _)
   exact hn
  ·exact .inl z
 have hu:=I2.base;have nn:∀b,s1.heap.get? b=none->s.heap.get? b=none:=λb q=>pS I.base q;refine⟨e,T',C,H2,rfl,hx,nn e n1,nn T' hT,h2e,hTh,I2.os,hb,EA hu k (λb hb=>nn b (hxs b hb)) fr,BN hok k hxh (λb hb=>I2.xU b hb),hE⟩
def CW{xc:Str->ah}:Passes (jz P w) (gn (jz P w) P w K mg base N qual scope f cd A outer s H E) (EX xc λn H'=>E (xc n) none H'):=by
 intro pins σ H1 s1 ev s2 I h;obtain⟨e,T,C,H2,rfl,x,n1,n2,n3,n4,os,bare,un,hok,n,hc,hE⟩:=h;have I2:Inv (gn (jz P w) P w K mg base N qual scope f cd A outer s H E) pins σ H2 s2:=I.Ag os un hok bare (λb z=>nomatch z);show aF _ _ (ye _ (.ref e)) _ _ s2;unfold ye;refine aP (CV (L:=s.heap.objs.size) I.ok.frames I2.stack rfl x λh' T' t1 t2 t3=>yA t2 λWq u1 u2=>?_);have QW:s1.heap.get? T'=none:=pS un t1;refine JE (s2:=s2) I n1 n3 os bare un hok (by rw[hc];exact hE) [e,T,T'] ?_ ?_ (t3.trans (ys:=[T']) (λb o q hn=>?_) ?_ ?_) QW (iC hok t1) u1
 ·intro b hb
  simp at hb;rcases hb with rfl|rfl|rfl
  ·exact n1
  ·exact n2
  ·exact QW
 ·intro b hb
  simp at hb;rcases hb with rfl|rfl|rfl
  ·exact n3
  ·exact n4
  ·exact iC hok t1
 ·exact⟨λ_=>(u2 b o q hn).1 (by simp),(u2 b o q hn).2⟩
 ·intro c hc;simp at hc;rcases hc with rfl|rfl<;>simp
 ·intro c hc;simp at hc;simp[hc]
def raised{pins:List (ae×Obj)}{σ:St}{H1:Hp}{s1:ai}{e C:ae}{h1:au}{args:List ah}(I:Inv (gn (jz P w) P w K mg base N qual scope f cd A outer s H E) pins σ H1 s1)
  (mx:au.MadeExcOf s1.heap h1 e (.ref C) args)(hE:E (.ref C) none H1):(gn (jz P w) P w K mg base N qual scope f cd A outer s H E).xe (.ref e) {s1 with heap:=h1}:=by
 obtain⟨t,q1,q2,q3⟩:=mx.there;have I2:=I.kept (t':=s1.toks) mx.keeps;show aF _ _ (ye _ (.ref e)) _ _ _;unfold ye;refine aP (HD (L:=s.heap.objs.size) I.ok.frames I2.stack rfl q1 rfl λh' T' t1 t2 t3=>yA t2 λWq u1 u2=>?_);have kn:∀b,h1.get? b=none->s1.heap.get? b=none:=λb q=>by
  cases z:s1.heap.get? b with
  |none=>rfl
  |some o=>rw[mx.keeps b o z]at q;cases q
 have QW:s1.heap.get? T'=none:=kn T' t1;have fe:H1 e=none:=iC I.hok mx.new;refine JE (s2:={s1 with heap:=h1}) I mx.new fe rfl I.bare (Un.kept mx.keeps) I2.hok hE [e,T'] ?_ ?_ (t3.trans (ys:=[T']) (λb o q hn=>?_) ?_ ?_) QW (iC I2.hok t1) u1
 ·intro b hb
  simp at hb;rcases hb with rfl|rfl
  ·exact mx.new
  ·exact QW
 ·intro b hb
  simp at hb;rcases hb with rfl|rfl
  ·exact fe
  ·exact iC I2.hok t1
 ·exact⟨λ_=>(u2 b o q hn).1 (by simp),(u2 b o q hn).2⟩
 ·intro c hc;simp at hc;simp[hc]
 ·intro c hc;simp at hc;simp[hc]
end
def yB(K:aj)(n:Str):ah:=match cV K bU n with
 |some (aa v)=>v
 |_=>.none
def JF{K:aj}{n:Str}{v:ah}(h:cV K bU n=aa (aa v)):yB K n=v:=by unfold yB;rw[h]
abbrev Wv:List ah:=[.type "ValueError",.type "Exception",.type "BaseException",.type "object"]
def HE{K:aj}{h:au}{C:ae}{bmB:List ah}{newId:String}(X:K.In h)(q:yD K C bmB newId=true):∃nm qn N bs bm hdct sn sub ab col dd k0 k1 k2 k3 k5,∃mN:Str->Option ah,
  h.get? C=aa (excClassObj nm qn C N bs bm hdct sn sub ab col dd k0 k1 k2 k3 k5 newId)/\h.Ns N mN/\mN "__init__"=none/\OwnTail h bmB bm:=by
 unfold yD at q;split at q
 ·rename_i dd cd sl lk
  split at q
  ·rename_i C2 tl a0 a1 a2 a3 nw a5 em es
   simp only [dM,beq_iff_eq,BO]at q;obtain⟨⟨⟨⟨⟨e1,e2⟩,e3⟩,e4⟩,e5⟩,e6⟩:=q;subst e1 e2;cases cd;dsimp only at em e3 e5 e6;subst em e3;have z:sl=#[a0,a1,a2,a3,aa (.builtin nw),a5]:=by cases sl;simp only at es;rw[es]
   subst z;exact⟨_,_,_,_,tl,_,_,_,_,_,dd,a0,a1,a2,a3,a5,_,X _ _ lk,.of_isNs (PySem.W.isNs_of_in X e5),PySem.W.nsMap_none_of_in X e5 e6,PySem.W.tail_of_in X e4⟩
  ·cases q
 ·cases q
structure Xc(K:aj)(mg:Str->Option ah)(x:Str)(C:ae):Prop where
 m:mg x=aa (.ref C)
 n:cV K bU x=aa (aa (.ref C))
 i:yD K C Wv "ValueError.__new__"=true
section
variable{P:aO}{w:aD}{K:aj}{mg:Str->Option ah}{base:au}{N:List Str}{qual:Str}{scope:cO}{f:ae}{cd:ah}{A:aW}{outer:List Env}{s:ai}{H:Hp}{E:XK}
abbrev EW(K:aj)(E:XK):Str->Hp->Prop:=λn H'=>E (yB K n) none H'
def OwnTail.U4 {h:au}{bm:List ah}(T:OwnTail h Wv bm):bm.contains (.type "BaseException")=true:=T.hasType (by decide +kernel)
def BP{x:Str}{C:ae}{msg:Str}{j}{p np fR pos:Pos}(xc:Xc K mg x C)(hh:A.handled=none)(hg:Gl (gn (jz P w) P w K mg base N qual scope f cd A outer s H E) x:=by rfl)(hdb:(x==("__debug__":Str))=false:=by decide)
  (hp:(bY fR (aq [.Constant (.str msg) j p] (gn (jz P w) P w K mg base N qual scope f cd A outer s H E).env)).any (·.1)=false:=by rfl)
  (hst:aq [.Constant (.str msg) j p] (gn (jz P w) P w K mg base N qual scope f cd A outer s H E).env=[(false,aK (.Constant (.str msg) j p) (gn (jz P w) P w K mg base N qual scope f cd A outer s H E).env)]:=by rfl):
  PS (gn (jz P w) P w K mg base N qual scope f cd A outer s H E) (.Raise (aa (.Call (.Name x np) [.Constant (.str msg) j p] [] fR)) none pos) (tS K (EW K E) λ_=>.err x):=by
 intro pins s1 σ H1 De I ⟨g,env,os,r,m⟩;have hE:E (yB K x) none H1:=m H1 r.ext;rw[JF xc.n]at hE;have hA:(PA (gn (jz P w) P w K mg base N qual scope f cd A outer s H E) [.Constant (.str msg) j p] (O3 (tC (.str msg)) QJ)):=aX l8 cX hst;obtain⟨nm,qn,N',bs,bm,hdct,sn,sub,ab,col,dd,k0,k1,k2,k3,k5,mN,c1,c2,c3,c4⟩:=HE I.ok.mod.OY xc.i;refine wpAny_Raise_call_subT (C:=C) (nm:=nm) (q:=qn) (N:=N') (bs:=bs) (bm:=bm) (hdct:=hdct) (sn:=sn) (sub:=sub) (ab:=ab) (col:=col) (dd:=dd) (k0:=k0) (k1:=k1) (k2:=k2) (k3:=k3) (k5:=k5) (mN:=mN) PySem.F.excBase_ValueError (OwnTail.U4 c4) hh hp c3 (rH I hg xc.m ⟨rfl,?_⟩ hdb);have ZT:=hA fR pins s1 σ H1 (λvs H2=>vs=[.str msg]/\H2=H1) I ⟨rfl,rfl⟩;rw[hst]at ZT⊢;refine ME (gV ZT λus s2 ⟨vs,H2,I2,r2,e1,e2⟩=>?_);subst e1 e2;have hk:=I2.bk;refine⟨rfl,?_,hk _ _ c1,c2.keeps hk,c4.keeps hk,λh' e mx=>raised I2 mx hE⟩;rw[<-r2.length];show 1<=aQ;decide
end
def Yc(n N:Nat)(b:DE->R Out)(ds:List D):R D:=if ds.length=n then(b (ao N ds)).bind aw else .bad
def JG(n N:Nat)(b:DE->R Out)(ds:List D):R D:=if ds.length=n then((b (ao N ds)).bind aw).bind Ey else .bad
def Nm(n N:Nat)(b:DE->R Out)(ds:List D):R (List D):=if ds.length=n then((b (ao N ds)).bind aA).bind Iz else .bad
abbrev CY(P:aO)(w:aD)(K:aj)(mg:Str->Option ah)(base:au)(k:Nat)(f:ae)(fd:aL)(ps:List Str)(m:List D->R D):Prop:=fz P w K mg base (jz P w) k f fd ps (Gj K (yB K) m)
abbrev HF(P:aO)(w:aD)(K:aj)(mg:Str->Option ah)(base:au)(k:Nat)(f:ae)(fd:aL)(ps:List Str)(m:List D->R (List D)):Prop:=fz P w K mg base (jz P w) k f fd ps (QX K (yB K) m)
section
variable{P:aO}{w:aD}{K:aj}{mg:Str->Option ah}{base:au}
variable{x:Str}{st:aB}{f:ae}{fd:aL}{N ps:List Str}{k:Nat}{b:DE->R Out}
def P8{m:List D->R D}(F:Br K x x st f fd)(S:bh N ps (az st))
  (hm:∀ds,m ds≠.bad->ds.length=ps.length/\((∃d,m ds=.ok d/\(b (ao N.length ds)).bind aw=.ok d)\/∃c,m ds=.err c/\b (ao N.length ds)=.err c))
  (hb:∀(cdv:ah)(A:aW)(outer:List Env)(s:ai)(H:Hp)(E:XK),bB k (A.deeper (dF x (az st) s.heap.objs.size f cdv))->qG (gn (jz P w) P w K mg base N x (az st) f cdv A outer s H E) (dm st) (tS K (EW K E) b)):
  CY P w K mg base (k+1) f fd ps m:=by
 obtain⟨oc,od,kV,doc,pm,an,cdv,ct,Bc,rfl,lk,hcd⟩:=F.ex;refine xh lk hcd S (λvs H Q E h=>?_) λA outer s H vs Q E hr h=>?_
 ·obtain⟨Pa,ds,i,h⟩:=h
  have:=(hm ds λz=>by rw[z]at h;exact h).1;rw[i.length];exact this
 ·obtain⟨Pa,ds,i,h⟩:=h
  refine⟨_,hb cdv A outer s H E hr,⟨⟨Pa,H⟩,ao N.length ds,[],rV i,?_⟩⟩;obtain⟨_,⟨d,e,q⟩|⟨c,e,q⟩⟩:=hm ds λz=>by rw[z]at h;exact h
  ·rw[e]at h
   cases eb:b (ao N.length ds)with
   |bad=>rw[eb]at q;cases q
   |err c=>rw[eb]at q;cases q
   |ok o=>
    rw[eb]at q;cases o with
    |rt d'=>
     cases q;exact λv H' s' i'=>h v H' s' i'.P0
    |xm xs=>
     cases q;intro a Bt H' s' hn hH i';exact h _ H' s' ⟨a,Bt,rfl,.inl ⟨.inr hn,.inl hH⟩,IsL.ext ⟨λb o p _=>p.1,λ_ _ _ z=>z⟩ _ _ i'⟩
    |nx e'=>
     cases q;exact λσ' H' dS r' _=>h _ H' r'.ext rfl
    |Iu _=>cases q
    |vM d e=>cases q
    |Ip _=>cases q
    |Ir _=>cases q
    |Io _=>cases q
    |bk _=>cases q
    |ct _=>cases q
  ·rw[e]at h
   rw[q];exact h
def U5{m:List D->R (List D)}(F:Br K x x st f fd)(S:bh N ps (az st))
  (hm:∀ds,m ds≠.bad->ds.length=ps.length/\((∃d,m ds=.ok d/\(b (ao N.length ds)).bind aA=.ok d)\/∃c,m ds=.err c/\b (ao N.length ds)=.err c))
  (hb:∀(cdv:ah)(A:aW)(outer:List Env)(s:ai)(H:Hp)(E:XK),bB k (A.deeper (dF x (az st) s.heap.objs.size f cdv))->qG (gn (jz P w) P w K mg base N x (az st) f cdv A outer s H E) (dm st) (tS K (EW K E) b)):
  HF P w K mg base (k+1) f fd ps m:=by
 obtain⟨oc,od,kV,doc,pm,an,cdv,ct,Bc,rfl,lk,hcd⟩:=F.ex;refine xh lk hcd S (λvs H Q E h=>?_) λA outer s H vs Q E hr h=>?_
 ·obtain⟨Pa,ds,i,h⟩:=h
  have:=(hm ds λz=>by rw[z]at h;exact h).1;rw[i.length];exact this
 ·obtain⟨Pa,ds,i,h⟩:=h
  refine⟨_,hb cdv A outer s H E hr,⟨⟨Pa,H⟩,ao N.length ds,[],rV i,?_⟩⟩;obtain⟨_,⟨d,e,q⟩|⟨c,e,q⟩⟩:=hm ds λz=>by rw[z]at h;exact h
  ·rw[e]at h
   cases eb:b (ao N.length ds)with
   |bad=>rw[eb]at q;cases q
   |err c=>rw[eb]at q;cases q
   |ok o=>
    rw[eb]at q;cases o with
    |rt d'=>cases q
    |xm xs=>
     cases q;intro a Bt H' s' hn hH i';exact h a Bt H' s' hn hH (IsL.ext ⟨λb o p _=>⟨p.1,λz=>p.2 (by simp[z])⟩,λ_ _ _ z=>z⟩ _ _ i')
    |nx e'=>cases q
    |Iu _=>cases q
    |vM d e=>cases q
    |Ip _=>cases q
    |Ir _=>cases q
    |Io _=>cases q
    |bk _=>cases q
    |ct _=>cases q
  ·rw[e]at h
   rw[q];exact h
def y8{α β:Type}{r:R α}{k:α->R β}{c:Str}(hk:∀a c,k a≠.err c)(h:r.bind k=.err c):r=.err c:=by
 cases r with
 |ok a=>exact(hk a c h).elim
 |err c'=>cases h;rfl
 |bad=>cases h
def GK(o:Out)(c:Str):aw o≠.err c:=by intro z;cases o<;>cases z
def Nn(o:Out)(c:Str):aA o≠.err c:=by intro z;cases o<;>cases z
def JH(d:D)(c:Str):Ey d≠.err c:=by unfold Ey;intro z;split at z<;>cases z
theorem JI:∀(xs:List D)(c:Str),Iz xs≠.err c
 |[],c=>λz=>nomatch z
 |x::xs,c=>λz=>by
  have z':(Ey x).bind (λy=>(Iz xs).bind λys=>.ok (y::ys))=.err c:=z;cases e:Ey x with
  |ok y=>
   rw[e]at z';have z2:(Iz xs).bind (λys=>.ok (y::ys))=.err c:=z';cases e2:Iz xs with
   |ok ys=>rw[e2]at z2;cases z2
   |err c'=>exact JI xs c' e2
   |bad=>rw[e2]at z2;cases z2
  |err c'=>exact JH x c' e
  |bad=>rw[e]at z';cases z'
variable(S:bh N ps (az st))(d:Df K mg x st ps f fd)
  (hb:∀(cdv:ah)(A:aW)(outer:List Env)(s:ai)(H:Hp)(E:XK),bB k (A.deeper (dF x (az st) s.heap.objs.size f cdv))->qG (gn (jz P w) P w K mg base N x (az st) f cdv A outer s H E) (dm st) (tS K (EW K E) b))
include S d hb
theorem Yd:CY P w K mg base (k+1) f fd ps (Yc ps.length N.length b):=P8 d.F S (λds h=>by
 unfold Yc at h⊢;split
 ·rename_i c
  rw[if_pos c]at h;refine⟨c,?_⟩;cases e:(b (ao N.length ds)).bind aw with
  |ok d=>exact .inl ⟨d,rfl,rfl⟩
  |err c=>exact .inr ⟨c,rfl,y8 GK e⟩
  |bad=>exact(h e).elim
 ·rename_i c
  exact(h (if_neg c)).elim) hb
theorem U6:CY P w K mg base (k+1) f fd ps (JG ps.length N.length b):=P8 d.F S (λds h=>by
 unfold JG at h⊢;split
 ·rename_i c
  rw[if_pos c]at h;refine⟨c,?_⟩;cases e:(b (ao N.length ds)).bind aw with
  |ok d=>
   rw[e]at h;cases e2:Ey d with
   |ok y=>
    obtain⟨rfl,_⟩:=y7 e2;exact .inl ⟨d,e2,rfl⟩
   |err c=>exact(JH d c e2).elim
   |bad=>exact(h e2).elim
  |err c=>exact .inr ⟨c,rfl,y8 GK e⟩
  |bad=>rw[e]at h;exact(h rfl).elim
 ·rename_i c
  exact(h (if_neg c)).elim) hb
theorem U7:HF P w K mg base (k+1) f fd ps (Nm ps.length N.length b):=U5 d.F S (λds h=>by
 unfold Nm at h⊢;split
 ·rename_i c
  rw[if_pos c]at h;refine⟨c,?_⟩;cases e:(b (ao N.length ds)).bind aA with
  |ok d=>
   rw[e]at h;cases e2:Iz d with
   |ok y=>
    obtain⟨rfl,_⟩:=Ez e2;exact .inl ⟨d,e2,rfl⟩
   |err c=>exact(JI d c e2).elim
   |bad=>exact(h e2).elim
  |err c=>exact .inr ⟨c,rfl,y8 Nn e⟩
  |bad=>rw[e]at h;exact(h rfl).elim
 ·rename_i c
  exact(h (if_neg c)).elim) hb
end
section
variable{P:aO}{w:aD}{K:aj}{mg:Str->Option ah}{base:au}{f:ae}{fd:aL}{ps:List Str}{k:Nat}
def fz.calm {sp ZU:Sp}(F:fz P w K mg base (jz P w) k f fd ps sp)(h:∀vs H Q E,ZU vs H Q E->sp vs H Q λ_ _ _=>False):fz P w K mg base lL k f fd ps ZU:=
 ⟨λvs H Q E q=>F.len vs H Q _ (h vs H Q E q),λA outer s H args us vs Q E hr he hb hv hs=>rO (F.run A outer s H args us vs Q _ hr he hb hv (h vs H Q E hs)) λr s' hq=>by
  cases r with
  |ok fl=>cases fl<;>exact hq
  |error e=>
   obtain⟨_,_,_,_,_,_,_,_,_,_,_,_,_,_,z⟩:=hq;exact z.elim⟩
theorem CY.calm {m:List D->R D}(F:CY P w K mg base k f fd ps m):Ok P w K mg base k f fd ps (λds=>(m ds).ne):=fz.calm F λvs H Q E h=>by
 obtain⟨Pa,ds,i,h⟩:=h;refine⟨Pa,ds,i,?_⟩;cases e:m ds with
 |ok d=>simp only [e,R.ne]at h;exact h
 |err c=>simp only [e,R.ne]at h
 |bad=>simp only [e,R.ne]at h
theorem HF.calm {m:List D->R (List D)}(F:HF P w K mg base k f fd ps m):Lw P w K mg base k f fd ps (λds=>(m ds).ne):=fz.calm F λvs H Q E h=>by
 obtain⟨Pa,ds,i,h⟩:=h;refine⟨Pa,ds,i,?_⟩;cases e:m ds with
 |ok d=>simp only [e,R.ne]at h;exact h
 |err c=>simp only [e,R.ne]at h
 |bad=>simp only [e,R.ne]at h
end
section
variable{P:aO}{w:aD}{K:aj}{mg:Str->Option ah}{base:au}{N:List Str}{qual:Str}{scope:cO}{f:ae}{cd:ah}{A:aW}{outer:List Env}{s:ai}{H:Hp}{E:XK}
variable{k:Nat}{fa:ae}{fd:aL}{st:aB}{ps:List Str}{x:Str}{p pos:Pos}{e:ak}{es:List ak}{fr:DE->R (List D)}
def ZV{m:List D->R D}(hsc:Ws m)(d:Df K mg x st ps fa fd)(F:CY P w K mg base k fa fd ps m)(hr:bB k (A.deeper (dF qual scope s.heap.objs.size f cd)))
  (ha:PA (gn (jz P w) P w K mg base N qual scope f cd A outer s H E) (e::es) (yU K (EW K E) fr))(hg:Gl (gn (jz P w) P w K mg base N qual scope f cd A outer s H E) x:=by rfl)(hdb:(x==("__debug__":Str))=false:=by decide)(he:aq (e::es) (gn (jz P w) P w K mg base N qual scope f cd A outer s H E).env=(false,aK e (gn (jz P w) P w K mg base N qual scope f cd A outer s H E).env)::aq es (gn (jz P w) P w K mg base N qual scope f cd A outer s H E).env:=by rfl)(hpl:(bY pos (aq es (gn (jz P w) P w K mg base N qual scope f cd A outer s H E).env)).any (·.1)=false:=by rfl):
  PE (gn (jz P w) P w K mg base N qual scope f cd A outer s H E) (.Call (.Name x p) (e::es) [] pos) (tD K (EW K E) λenv=>(fr env).bind m):=fB (X:=(gn (jz P w) P w K mg base N qual scope f cd A outer s H E)) F hsc d.m d.F.kp d.b hr CW ha hg hdb he hpl
def U8{n N:Nat}{b:DE->R Out}:Ws (JG n N b):=λds d h=>by
 unfold JG at h;split at h
 ·obtain⟨x,_,h2⟩:=R.kE h
  exact(y7 h2).2
 ·cases h
def Ye:AZ (aG (gn (jz P w) P w K mg base N qual scope f cd A outer s H E).prog (gn (jz P w) P w K mg base N qual scope f cd A outer s H E).w) (gn (jz P w) P w K mg base N qual scope f cd A outer s H E).A (gn (jz P w) P w K mg base N qual scope f cd A outer s H E).env (gn (jz P w) P w K mg base N qual scope f cd A outer s H E).xe:=AZ.leaving
end
noncomputable def PB(X:Cx)(body:List aB)(f:DE->R Out):Prop:=∀pins s σ H De g env os,Inv X pins σ H s->Rel X.K g env σ H os->f env≠.bad->(∀o,f env=.ok o->gD X.K g H os De o)->
 aF (aG X.prog X.w) X.A (execs body X.env) (SP X pins De) (λev s'=>∃n H0 s0,f env=.err n/\Inv X pins σ H0 s0/\jz X.prog X.w X.stack H0 s0 (λc _ H'=>c=yB X.K n/\bS H H') ev s') s
section
variable{X:Cx}{k:Nat}{fa:ae}{fd:aL}{st:aB}{ps:List Str}{x:Str}{p pos fR:Pos}{e:ak}{es:List ak}{fr:DE->R (List D)}
def P9{pins:List (ae×Obj)}{σ:St}{H:Hp}{s:ai}{Q:VK}{E:XK}{us:List ah}{vs:List V}{sp:Sp}(F:fz X.prog X.w X.K X.mg X.base (jz X.prog X.w) k fa fd ps sp)(hr:bB k X.A)(hb:Binds X.K fd ps [])
  (I:Inv X pins σ H s)(r:Vals vs us)(h:sp vs H Q E):aF (aG X.prog X.w) X.A (call (.ref fa) us) (EP X pins σ Q) (λev s'=>jz X.prog X.w X.stack H s E ev s') s:=by
 have hl:us.length=ps.length:=by rw[<-r.length];exact F.len _ _ _ _ h
 have hb2:=hb s us I.qy (by rw[jd];exact hl);rw[jd]at hb2;refine uJ (rO (F.run X.A X.stack s H ⟨us,[]⟩ us vs Q E hr I.Mj hb2 r h) λr s' hq=>?_);cases r with
 |error e=>exact hq
 |ok fl=>
  cases fl with
  |ret u=>exact I.after hq
  |next=>exact dD hq
  |brk=>exact dD hq
  |cont=>exact dD hq
end
abbrev DT(X:Cx)(e:ae):Cx:={X with A:=X.A.mark (aa (.ref e)),calm:=false,xe:=λ_ _=>False}
section
variable{X:Cx}{pins:List (ae×Obj)}{σ:St}{H H1:Hp}{s s1:ai}{e:ae}
theorem Inv.DT (I:Inv X pins σ H s)(e:ae):Inv (DL.DT X e) pins σ H s:=
 ⟨⟨I.ok.mod,I.ok.kind,I.ok.glob,I.ok.blt,I.ok.above,I.ok.inj,I.ok.has,I.ok.OZ,(λz=>by cases z),I.ok.frames,I.ok.Qy,I.ok.Tg,I.ok.bs,I.ok.Im,I.ok.Cw,I.ok.Cy,I.ok.tQ,I.ok.Ls⟩,I.os,I.bare,I.base,I.loc,I.cell,I.free,I.m8,I.pin,I.hok,I.len⟩
def Inv.U9 (hc:X.calm=true->X.A.handled=none)(I:Inv (DL.DT X e) pins σ H s):Inv X pins σ H s:=
 ⟨⟨I.ok.mod,I.ok.kind,I.ok.glob,I.ok.blt,I.ok.above,I.ok.inj,I.ok.has,I.ok.OZ,hc,I.ok.frames,I.ok.Qy,I.ok.Tg,I.ok.bs,I.ok.Im,I.ok.Cw,I.ok.Cy,I.ok.tQ,I.ok.Ls⟩,I.os,I.bare,I.base,I.loc,I.cell,I.free,I.m8,I.pin,I.hok,I.len⟩
def HG{P:aO}{w:aD}{h:au}{o:HO}(x:sU P w H h)(he:H e=none)(ok:gK P w (upd H e o) h e o):sU P w (upd H e o) h:=λa u q=>by
 by_cases z:a=e
 ·subst z
  rw[aV]at q;cases q;exact ok
 ·rw[aM z]at q
  have nb:∀b v,H b=aa v->upd H e o b=aa v:=λb v q2=>by rw[aM (λz2=>by rw[z2,he]at q2;cases q2)];exact q2
  exact(x a u q).zP (λ_ _ _ q=>q) (λb q2=>nb b _ q2) λb xs q2=>nb b _ q2
def Inv.Va {o:HO}(hex:X.ex=[])(I1:Inv X pins σ H1 s1)(I:Inv X pins σ H s)(ne:s1.heap.get? e=none)(he:H e=none)(ok:gK X.prog X.w (upd H e o) s.heap e o):Inv X pins σ (upd H e o) s:=by
 have n0:X.s₀.heap.get? e=none:=by have b:=I1.base;rw[hex]at b;exact pS b ne
 have nx:∀b u,s1.heap.get? b=aa u->b≠e:=λb u q z=>by rw[z,ne]at q;cases q
 have hb:∀b v,H b=aa v->upd H e o b=aa v:=λb v q2=>by rw[aM (λz2=>by rw[z2,he]at q2;cases q2)];exact q2
 refine⟨I.ok,I.os,I.bare,⟨I.base.keep,I.base.slot,λb u q n hx=>?_,I.base.there,λb xs q=>hb b _ (I.base.tups b xs q),λb u v q=>hb b _ (I.base.vR b u v q),λb ps q=>?_⟩,I.loc,I.cell,?_,λx c q=>?_,λp hp=>?_,HG I.hok he ok,I.len⟩
 ·rw[aM (λz=>by rw[z,n0]at q;cases q)]
  exact I.base.free b u q n hx
 ·obtain⟨more,z⟩:=I.base.xD b ps q
  exact⟨more,hb b _ z⟩
 ·obtain⟨m,⟨u,_,_,hu,_⟩,_⟩:=I1.loc
  rw[aM (nx _ u hu)];exact I.free
 ·obtain⟨v,u,hu,_⟩:=I1.cell x c q
  rw[aM (nx _ u hu)];exact I.m8 x c q
 ·obtain⟨a1,a2,a3⟩:=I.pin p hp
  obtain⟨b1,_⟩:=I1.pin p hp;exact⟨a1,by rw[aM (nx _ _ b1)];exact a2,a3⟩
def JJ{M:uE}{A:aW}{E:ah->ai->Prop}{i:Nat}{x:Str}{pos:Pos}{Q:Unit->ai->Prop}(I:Inv X pins σ H s)(hN:X.N.Nodup)(hi:X.N[i]?=aa x)(hk:X.env.scope.names.lookup x=aa .local)
  (h:∀s',Inv X pins (σ.set i none) H s'->Q () s'):aF M A (do bindName X.env x .none;unbindBehindTheSuite X.env x pos) Q E s:=by
 obtain⟨m,hn,hl⟩:=id I.loc;have hcls:(X.env.scope.kind==.class||(X.env.scope.kind==.module&&X.env.locals !=X.env.globals))=false:=by rw[I.ok.kind];rfl
 have V8:i<σ.length:=by rw[I.len];exact(dX.mp hi).1
 obtain⟨oL,_,_,Zl,_⟩:=id hn;have lo:∀b u,X.s₀.heap.get? b=aa u->b≠X.env.locals:=λb u q=>fX (fk (cy q) I.ok.above);refine wpAny_nameGoes_keeps hk hn hcls λh' v WS hs=>h _ ⟨I.ok,I.os,I.bare,⟨λb o q n hb hx=>?_,λb o q n hb hx=>?_,I.base.free,λb o q hx=>?_,I.base.tups,I.base.vR,I.base.xD⟩,⟨_,WS,λj y v' e1 e2 e3=>?_⟩,λy c q=>?_,I.free,I.m8,λp hp=>?_,λb ob q=>?_,by simpa using I.len⟩
 ·exact(hs.2 b (lo b o q)).trans (I.base.keep b o q n hb hx)
 ·obtain⟨sl,q1⟩:=I.base.slot b o q n hb hx
  exact⟨sl,(hs.2 b (lo b o q)).trans q1⟩
 ·obtain⟨o',q1⟩:=I.base.there b o q hx
  exact⟨o',(hs.2 b (lo b o q)).trans q1⟩
 ·by_cases hj:j=i
  ·subst hj
   rw[jA V8]at e2;cases e2
  ·rw[aT (eT hj)]at e2
   obtain⟨u',r',q⟩:=hl j y v' e1 e2 e3;refine⟨u',r',?_⟩;rcases q with⟨k,q⟩|⟨k,c,q,z⟩
   ·refine .inl ⟨k,?_⟩
    have ny:y≠x:=λz=>hj (yN hN e1 (z▸hi));simp[ny,q]
   ·exact .inr ⟨k,c,q,z.sameBut hs (I.LG y c q)⟩
 ·obtain⟨w',z⟩:=I.cell y c q
  exact⟨w',z.sameBut hs (I.LG y c q)⟩
 ·obtain⟨q,n,ne,nf,d⟩:=I.pin p hp
  exact⟨(hs.2 p.1 ne).trans q,n,ne,nf,d⟩
 ·refine(I.hok b ob q).zP (λc w' hc z=>(hs.2 c ?_).trans z) (λ_ z=>z) λ_ _ z=>z
  rintro rfl;rcases hc with z|z
  ·rw[<-z,I.free]at q;cases q
  ·rw[I.free]at z;cases z
end
def Rel.drop {K:aj}{g:Gh}{env:DE}{σ:St}{H:Hp}{os:List ae}(r:Rel K g env σ H os)(i:Nat):Rel K g (env.set i .no) (σ.set i none) H os:=by
 have f:∀(j:Nat)(sl:Sl),(env.set i Sl.no)[j]?=aa sl->sl≠.no->i≠j/\env[j]?=aa sl:=λj sl q hn=>by
  by_cases hj:i=j
  ·subst hj
   exact(hn (dA q)).elim
  ·rw[aT hj]at q
   exact⟨hj,q⟩
 refine⟨by simp[r.len],r.ext,λj d q=>?_,λj xs q=>?_,λj k xs ys a q1 q2 q3 q4=>?_,r.new,λj v q=>?_,?_⟩
 ·obtain⟨hj,q⟩:=f j _ q (λz=>nomatch z)
  obtain⟨v,h1,h2⟩:=r.val j d q;exact⟨v,by rw[aT hj];exact h1,h2⟩
 ·obtain⟨hj,q⟩:=f j _ q (λz=>nomatch z)
  obtain⟨a,vs,h1,h2⟩:=r.own j xs q;exact⟨a,vs,by rw[aT hj];exact h1,h2⟩
 ·obtain⟨hj,q1⟩:=f j _ q1 (λz=>nomatch z)
  obtain⟨hk,q2⟩:=f k _ q2 (λz=>nomatch z);rw[aT hj]at q3;rw[aT hk]at q4;exact r.inj j k xs ys a q1 q2 q3 q4
 ·obtain⟨hj,q⟩:=f j _ q (λz=>nomatch z)
  rw[aT hj];exact r.raw j v q
 ·obtain⟨A,dd⟩:=r.ML
  refine⟨A,dd.to (λj nss q=>?_) (λj xs b q z=>?_) λj nss q x hx=>⟨(dd.mem q x hx).1,rfl⟩⟩
  ·obtain⟨hj,q⟩:=f j _ q (λz=>nomatch z)
   exact⟨q,by rw[aT hj]⟩
  ·obtain⟨hj,q⟩:=f j _ q (λz=>nomatch z)
   rw[aT hj]at z;exact .inl ⟨xs,q,z⟩
def Vb(i:Nat):Out->R Out
 |.nx e=>.ok (.nx (e.set i .no))
 |_=>.bad
def tryD(i:Nat)(ms:List Str)(f fs:DE->R Out)(env:DE):R Out:=match f env with
 |.ok o=>.ok o
 |.err n=>if n∈ms then(fs (env.set i (.val (.exc n)))).ne.bind (Vb i)else .bad
 |.bad=>.bad
structure ZW(K:aj)(mg:Str->Option ah)(c:Str)(ms:List Str):Prop where
 ex:∃C,mg c=aa (.ref C)/\∀n∈ms,∃D,cV K bU n=aa (aa (.ref D))/\GL K (.ref D) (.ref C)=aa true
section
variable{X:Cx}{E:Str->Hp->Prop}
def Vc(i:Nat){ms:List Str}{body:List aB}{b₀:aB}{suite:List aB}{c x:Str}{cp hpos pos:Pos}{f fs:DE->R Out}(ct:ZW X.K X.mg c ms)(hb:PB X body f)(hsu:∀e,qG (DT X e) (b₀::suite) (tS X.K EN fs))(hN:X.N.Nodup)
  (Gq:X.calm=true)(hex:X.ex=[]:=by rfl)(hst:X.stack=X.env::X.outer:=by rfl)(hfr:X.env.frame=aa X.env.locals:=by rfl)(hi:X.N[i]?=aa x:=by rfl)(hk:X.env.scope.names.lookup x=aa .local:=by rfl)(hg:Gl X c:=by rfl)(hdb:(c==("__debug__":Str))=false:=by decide):
  PS X (.Try body [.ExceptHandler (aa (.Name c cp)) (aa x) (b₀::suite) hpos] [] [] pos) (tS X.K E (tryD i ms f fs)):=by
 intro pins s σ H De I ⟨g,env,os,r,m⟩;obtain⟨Cc,cm,cx⟩:=ct.ex;have hnb:f env≠.bad:=λz=>by unfold tryD at m;rw[z]at m;exact m
 refine wpAny_Try_except (eY (hb pins s σ H De g env os I r hnb λo q=>by unfold tryD at m;rw[q]at m;exact m) (λfl s1 q=>?_) λev s1 q=>?_)
 ·cases fl with
  |next=>exact rK q
  |ret v=>exact q
  |brk=>exact q
  |cont=>exact q
 ·obtain⟨n,H0,s0,ef,I0,e,T,C,H',rfl,x1,n1,n2,n3,n4,ho,bare,un,hok,hc,sm⟩:=q
  unfold tryD at m;rw[ef]at m;dsimp only at m;split at m
  ·rename_i hms
   obtain⟨Dn,dn,dx⟩:=cx n hms;have eC:C=Dn:=(by rw[JF dn]at hc;exact aS.inj hc);subst eC;have I1:Inv X pins σ H' s1:=I0.Ag ho un hok bare (λb z=>nomatch z);have ZX:∀b∈(X.env::X.outer).filterMap (·.frame),H' b=none:=λb hb=>I1.xU b (by rw[hst];exact hb);have ZY:=I1.stack;rw[hst]at ZY;refine CV (L:=X.env.locals) (by rw[I.ok.frames,hst]) ZY hfr x1 λh2 T2 t1 t2 t3=>yA t2 λh3 u1 u2=>?_;have T0:s0.heap.get? T2=none:=pS un t1;have TH:H' T2=none:=iC hok t1;have kk:DV ((X.env::X.outer).filterMap (·.frame)) [e,T,T2] s1.heap h3:=t3.trans (ys:=[T2]) (λb o q hn=>⟨λ_=>(u2 b o q hn).1 (by simp),(u2 b o q hn).2⟩) (by intro c hc;simp at hc;rcases hc with rfl|rfl<;>simp) (by intro c hc;simp at hc;simp[hc]);have xs0:∀b∈[e,T,T2],s0.heap.get? b=none:=by
    intro b hb;simp at hb;rcases hb with rfl|rfl|rfl
    ·exact n1
    ·exact n2
    ·exact T0
   have ZZ:∀b∈[e,T,T2],H' b=none:=by
    intro b hb;simp at hb;rcases hb with rfl|rfl|rfl
    ·exact n3
    ·exact n4
    ·exact TH
   have Vd:∀b∈(X.env::X.outer).filterMap (·.frame),b∈Cv X.stack\/s0.heap.get? b=none:=λb hb=>.inl (by rw[hst];exact hb);have un3:=EA un kk xs0 Vd;have Yg:=BN hok kk ZZ ZX;have I3:Inv X pins σ H' {s1 with heap:=h3}:=I0.Ag (s':={s1 with heap:=h3}) ho un3 Yg bare (λb z=>nomatch z);have nby:(aS e)≠byPass:=by intro q;cases q
   refine wpAny_handleBy_cons (codeAny_handlers_test (rH (Inv.DT I3 e) hg cm ?_ hdb)) nby
   obtain⟨vs,a1,a2⟩:=u1.at_
   have lt:x9 (aG X.prog X.w) h3 (typeOf (.ref e)) (.ref C):=(x9.ld a1).andThen .now;refine(PySem.W.exm_one I3.qy lt dx).here ?_;show ng _ _ _ _ _;refine codeAny_handlers_suite_as (yA u1 λh4 w1 w2=>?_);have k4:DV ((X.env::X.outer).filterMap (·.frame)) [e,T,T2] s1.heap h4:=kk.trans (ys:=[T2]) (λb o q hn=>⟨λ_=>(w2 b o q hn).1 (by simp),(w2 b o q hn).2⟩) (λ_ z=>z) (by intro c hc;simp at hc;simp[hc]);have I4:Inv X pins σ H' {s1 with heap:=h4}:=I0.Ag (s':={s1 with heap:=h4}) ho (EA un k4 xs0 Vd) (BN hok k4 ZZ ZX) bare (λb z=>nomatch z);have okE:gK X.prog X.w (upd H' e (.ext (Jd e C))) h4 e (.ext (Jd e C)):=by
    obtain⟨vs4,b1,b2⟩:=w1.at_
    exact⟨⟨vs4,b1⟩,⟨_,b1⟩,λha hb ⟨v,q⟩ k=>⟨v,k _ q⟩⟩
   have I5:=Inv.Va hex I0 I4 n1 n3 okE;have r5:Rel X.K g env σ (upd H' e (.ext (Jd e C))) os:=(r.same sm).same (d8 n3 _);have pe:g.P os e:=(r.same sm).fresh n3;have r6:=r5.set i (d:=.exc n) (v:=.ref e) ⟨e,C,rfl,pe,dn,aV⟩;refine yO (v:=.ref e) I5 hN hi (.inl hk) rfl (λs5 I6=>?_) (.inr hk);have sm5:bS H (upd H' e (.ext (Jd e C))):=sm.trans (d8 n3 _);refine eY (hsu e pins s5 _ _ ⟨λσ' Hn=>∀s',Inv X pins (σ'.set i none) Hn s'->SP X pins De .next s',λ_ _=>False,λ_ _=>False,λ_ _=>False⟩ (Inv.DT I6 e) ⟨g,_,os,r6,?_⟩) (λfl s6 q=>?_) λ_ _ z=>dD z
   ·have m':Good E g.H₀ ((fs (env.set i (.val (.exc n)))).ne.bind (Vb i)) _:=m
    cases q:fs (env.set i (.val (.exc n)))with
    |err c2=>rw[q]at m';exact m'.elim
    |bad=>rw[q]at m';exact m'.elim
    |ok o=>
     rw[q]at m';cases o with
     |nx e2=>
      have m2:gD X.K g H os De (.nx (e2.set i .no)):=m';exact λσ' Hn dS r' st s' I'=>⟨_,Hn,I',m2 _ Hn dS (r'.drop i) ((lZ.same sm5 os).trans st)⟩
     |bk _=>exact m'.elim
     |ct _=>exact m'.elim
     |rt _=>exact m'.elim
     |xm _=>exact m'.elim
     |Iu _=>exact m'.elim
     |vM d e=>exact m'.elim
     |Ip _=>exact m'.elim
     |Ir _=>exact m'.elim
     |Io _=>exact m'.elim
   ·cases fl with
    |next=>
     obtain⟨σ',Hn,I7,q⟩:=q;exact JJ (Inv.U9 I.ok.hd I7) hN hi hk q
    |ret v=>obtain⟨_,_,_,_,_,z⟩:=q;exact z.elim
    |brk=>obtain⟨_,_,_,z⟩:=q;exact z.elim
    |cont=>obtain⟨_,_,_,z⟩:=q;exact z.elim
  ·exact m.elim
end
structure Tu(K:aj)(D:ae):Prop where
 cl:(BQ K D).isSome=true
 ga:eZ K (.ref D) "__getattribute__"=aa (aa (.builtin "BaseException.__getattribute__"))
 gh:eZ K (.ref D) "__getattr__"=aa none
 ca:eZ K (.ref D) "__class__"=aa (aa (.builtin "object.__class__"))
 sp:FW K (.builtin "object.__class__") "__get__"=aa (aa (.builtin "getset_descriptor.__get__"))
 tk:FY K (.builtin "object.__class__")=aa true
 mo:FZ K D (.type "object")=aa true
 mb:Np K (.ref D) (.type "BaseException")=aa true
def ExcAt(x D:ae)(h:au):Prop:=∃vs,h.get? x=aa {cls:=.ref D,data:=.fields vs}
section
variable{K:aj}{x D:ae}
def CZ{h:au}{vs:Array ah}(q:h.get? x=aa {cls:=.ref D,data:=.fields vs}):L8 h x {cls:=.ref D,data:=.fields vs} D none:=⟨q,rfl,rfl,trivial⟩
def JK(c:Tu K D):Nq K D none "__class__"=aa (.bind (.builtin "getset_descriptor.__get__") (.builtin "object.__class__")):=by obtain⟨cd,hc⟩:=yf.mp c.cl;unfold Nq;rw[hc,Nr,c.ca,Nr];simp[c.sp,c.tk]
def HH{prog:aO}{w:aD}{A:aW}{E:ah->ai->Prop}{Q:Option ah->ai->Prop}{s:ai}(c:Tu K D)(X:K.In s.heap)(hx:ExcAt x D s.heap)(hq:Q (aa (.ref D)) {s with toks:=s.toks+1}):
  aF (aG prog w) A (getAttr? (.ref x) "__class__") Q E s:=by
 obtain⟨vs,hx⟩:=hx;have J:=CZ hx;obtain⟨hp,gg,dd,tt,oo⟩:=s;have l0:=J.type (M:=aG prog w);have l1:=FT (M:=aG prog w) X c.ga;have l2:=FT (M:=aG prog w) X c.gh;have l3:=PySem.W.looks_find (M:=aG prog w) X J (JK c);have l4:x9 (aG prog w) hp (isInstance (.ref x) (.type "BaseException")) true:=l0.andThen (PySem.W.looks_subIn X c.mb);have bs:=Nt.ga.bind (.ref x);unfold getAttr? getAttrBy? getAttrBy;refine aP (wpAny_mkText (aP (wpAny_attempt (Bf (aP (l0.at (aP (l1.at ?_))))))));have g0:(onTheHeap (aS D)&&yE "BaseException.__getattribute__"==yE "object.__getattribute__")=false:=by
  have z:(yE "BaseException.__getattribute__"==yE "object.__getattribute__")=false:=by decide +kernel
  rw[z];rfl
 dsimp only;rw[if_neg (by rw[g0];exact gu)];unfold getAttrByItsOwn hookBefore;rw[if_pos (show onTheHeap (aS D)=true from rfl)];refine aP (l2.at (aP (wpAny_attempt (Bf ?_))));unfold callGetattribute boundAndCalled;simp only [cY,BB,if_false];rw[bs];refine aP (cB ?_);have hk:builtinKind "BaseException.__getattribute__"=aa .slot:=by decide +kernel
 have hsplit:splitId "BaseException.__getattribute__"=aa ("BaseException","__getattribute__"):=by decide +kernel
 refine uJ (codeAny_call_builtin Nt.ga.plain PySem.F.entry_bexc_ga ?_);have ha:=PySem.F.args_bexc_ga (.ref x) (.str "__class__" tt);show aF _ _ (Nu "BaseException.__getattribute__" ⟨[.ref x,.str "__class__" tt],[]⟩) _ _ _;simp only [Nu,hk,hsplit];refine aP (l4.at ?_);rw[if_neg (by decide)];refine wpAny_of_eq ha ?_;have l5:x9 (aG prog w) hp (typeOf (.ref x)) (.ref D):=l0;refine aP (cB (aP (cB (aP (l5.at (aP (l3.at ?_)))))));show aF _ _ (lH [yE "object.__class__"] (call (.builtin "getset_descriptor.__get__") [.builtin "object.__class__",.ref x,.ref D])>>=ret) _ _ _;refine aP (Bf (uJ (PySem.W.class_get X J c.mo (cB ?_))));refine PySem.W.handed_on rfl (cB ?_);exact hq
def C0(c:Tu K D):KitX K (.ref x) (.ref D) (ExcAt x D) where
 ty:=λ_ _ _ ⟨_,q⟩=>(CZ q).type
 it:=λ_ _ X _=>by
  obtain⟨cd,hc⟩:=yf.mp c.cl;unfold BQ at hc;split at hc
  ·rename_i lk
   intro A' Q' E' s' k q;unfold isType loadHead;exact aP (wpAny_loadPart (k _ _ (X _ _ lk)) (cB q))
  ·cases hc
 ne:=λh tp dd its n sl X htp=>by
  obtain⟨cd,hc⟩:=yf.mp c.cl;refine Nv.mpr λq=>?_;have e2:D=tp:=aS.inj (beq_iff_eq.mp q);subst e2;unfold BQ at hc;split at hc
  ·rename_i lk
   have z:=(X _ _ lk).symm.trans htp;cases z
  ·cases hc
 ca:=λX hx q=>HH c X hx q
end
def sL(c n:Str):Bool:=n==c||c=="BraidError"||c=="ValueError"
def qH(ms cs:List Str):D->R D
 |.non=>.ok (.bl false)
 |.exc n=>if n∈ms then .ok (.bl (cs.any (sL · n)))else .bad
 |_=>.bad
structure Tv(K:aj)(ms:List Str)(c:Str)(v:ah):Prop where
 no:ig K (.type "NoneType") v=aa false
 ex:∀n∈ms,∃D,cV K bU n=aa (aa (.ref D))/\Tu K D/\ig K (.ref D) v=aa (sL c n)
section
variable{X:Cx}{pins:List (ae×Obj)}{σ:St}{H:Hp}{s:ai}{A:aW}{E:ah->ai->Prop}{Q:ah->ai->Prop}
def JL{P:ae->Prop}{n:Str}{v:V}{u:ah}{D:ae}(I:Inv X pins σ H s)(i:Is X.K P H (.exc n) v)(ru:RelV v u)(hn:cV X.K bU n=aa (aa (.ref D))):∃a,u=.ref a/\ExcAt a D s.heap:=by obtain⟨a,C,rfl,_,c,q⟩:=i;rw[c]at hn;cases hn;obtain⟨z,_⟩:=I.hok a _ q;exact⟨a,ru,z⟩
def JM{P:ae->Prop}{ms:List Str}{c:Str}{v:V}{u cv:ah}{d b:D}(F:Tv X.K ms c cv)(I:Inv X pins σ H s)(i:Is X.K P H d v)(ru:RelV v u)(e:qH ms [c] d=.ok b)(h:∀tk t,b=.bl t->Q (.bool t) {s with toks:=tk}):
  aF (aG X.prog X.w) A (call (.builtin "isinstance") [u,cv]) Q E s:=by
 cases d with
 |non=>
  have e1:D.bl false=b:=R.ok.inj e;cases i;cases (show u=ah.none from ru);exact gY F0 I.qy nu F.no (λz=>nomatch z) λtk=>h tk false e1.symm
 |exc n=>
  have e':(if n∈ms then R.ok (D.bl ([c].any (sL · n)))else R.bad)=R.ok b:=e;split at e'
  ·rename_i hm
   have e1:=R.ok.inj e';simp only [List.any_cons,List.any_nil,MB]at e1;obtain⟨D,hn,xk,kk⟩:=F.ex n hm;obtain⟨a,rfl,ea⟩:=JL I i ru hn;exact gY (C0 xk) I.qy ea kk (λz=>nomatch z) λtk=>h tk _ e1.symm
  ·cases e'
 |bl _=>cases e
 |int _=>cases e
 |str _=>cases e
 |lst _=>cases e
 |tup _=>cases e
 |fn _=>cases e
end
noncomputable def Ww(K:aj)(D:ae):Bool:=(BQ K D).isSome&&eZ K (.ref D) "__getattribute__"==aa (aa (.builtin "BaseException.__getattribute__"))&&eZ K (.ref D) "__getattr__"==aa none
 &&eZ K (.ref D) "__class__"==aa (aa (.builtin "object.__class__"))&&FW K (.builtin "object.__class__") "__get__"==aa (aa (.builtin "getset_descriptor.__get__"))&&FY K (.builtin "object.__class__")==aa true
 &&FZ K D (.type "object")==aa true&&Np K (.ref D) (.type "BaseException")==aa true&&yD K D Wv "ValueError.__new__"
def nZ{K:aj}{D:ae}(h:Ww K D=true):Tu K D/\yD K D Wv "ValueError.__new__"=true:=by unfold Ww at h;simp only [dM,beq_iff_eq]at h;obtain⟨⟨⟨⟨⟨⟨⟨⟨h1,h2⟩,h3⟩,h4⟩,h5⟩,h6⟩,h7⟩,h8⟩,h9⟩:=h;exact⟨⟨h1,h2,h3,h4,h5,h6,h7,h8⟩,h9⟩
def EB(ms cs:List Str)(d:D):qH ms cs d=.bad\/∃t,qH ms cs d=.ok (.bl t):=by
 cases d with
 |non=>exact .inr ⟨false,rfl⟩
 |exc n=>
  show(if n∈ms then R.ok (D.bl (cs.any (sL · n)))else R.bad)=_\/∃t,(if n∈ms then R.ok (D.bl (cs.any (sL · n)))else R.bad)=_;split
  ·exact .inr ⟨_,rfl⟩
  ·exact .inl rfl
 |bl _=>exact .inl rfl
 |int _=>exact .inl rfl
 |str _=>exact .inl rfl
 |lst _=>exact .inl rfl
 |tup _=>exact .inl rfl
 |fn _=>exact .inl rfl
structure Ve(K:aj)(ms cs:List Str)(Cs:List ae):Prop where
 no:yF K (.type "NoneType") (Cs.map aS)=aa false
 ex:∀n∈ms,∃D,cV K bU n=aa (aa (.ref D))/\Tu K D/\yF K (.ref D) (Cs.map aS)=aa (cs.any (sL · n))
section
variable{X:Cx}{E:Str->Hp->Prop}{pos:Pos}
def C1{ms:List Str}{c:Str}{C:ae}{p p2:Pos}{a:ak}{f:DE->R D}(F:Tv X.K ms c (.ref C))(Yh:X.mg c=aa (.ref C))(hm:X.mg "isinstance"=none)(ha:PE X a (tB X.K E f))(hg:Gl X "isinstance":=by rfl)(UQ:Gl X c:=by rfl)(hdb:(c==("__debug__":Str))=false:=by decide)
  (hs:aq [a,.Name c p2] X.env=(false,aK a X.env)::aq [.Name c p2] X.env:=by rfl)(hpl:(bY pos (aq [.Name c p2] X.env)).any (·.1)=false:=by rfl)(hs2:aq [.Name c p2] X.env=(false,aK (.Name c p2) X.env)::aq [] X.env:=by rfl):
  PE X (.Call (.Name "isinstance" p) [a,.Name c p2] [] pos) (tD X.K E λenv=>(f env).bind (qH ms [c])):=by
 have hty:PE X (.Name c p2) (tC (.ref C)):=AU UQ Yh rfl hdb;refine imp (jH (r:=λxs H Q=>∃d v t,xs=[v,.ref C]/\qH ms [c] d=.ok (.bl t)/\Is X.K Tr H d v/\Q (.bl t) H) ?_ hg hm kF (aX ha (aX hty cX hs2) hs) (by decide) (by decide) hs hpl) λσ H Q ⟨g,env,os,r,m⟩=>⟨g,env,os,r,m.bind.mono λd _ q v H' s i=>?_⟩
 ·intro pins s σ H xs us Q I r h
  obtain⟨d,v,t,rfl,e,hd,q⟩:=h;obtain⟨u,w,rfl,ru,rQ⟩:=vals2 r;have ew:w=.ref C:=rQ;subst ew;exact JM F I hd ru e λtk t' et=>by cases et;exact⟨.bl _,H,I.tok _,rfl,q⟩
 ·rcases EB ms [c] d with e|⟨t,e⟩
  ·rw[e]at q;exact q.elim
  ·rw[e]at q
   exact⟨d,v,t,rfl,e,i,q _ H' s rfl⟩
def GO{ms:List Str}{T:String}{x:Str}{p p2:Pos}{a:ak}{f:DE->R D}(F:Tv X.K ms x (.type T))(hv:fy x=aa (.type T))(hmt:X.mg x=none)(hm:X.mg "isinstance"=none)(ha:PE X a (tB X.K E f))(hg:Gl X "isinstance":=by rfl)(UQ:Gl X x:=by rfl)
  (hn:x≠"__name__":=by decide)(hdb:(x==("__debug__":Str))=false:=by decide)
  (hs:aq [a,.Name x p2] X.env=(false,aK a X.env)::aq [.Name x p2] X.env:=by rfl)(hpl:(bY pos (aq [.Name x p2] X.env)).any (·.1)=false:=by rfl)(hs2:aq [.Name x p2] X.env=(false,aK (.Name x p2) X.env)::aq [] X.env:=by rfl):
  PE X (.Call (.Name "isinstance" p) [a,.Name x p2] [] pos) (tD X.K E λenv=>(f env).bind (qH ms [x])):=by
 have hty:PE X (.Name x p2) (tC (.ty T)):=FA UQ hmt hv rfl hn hdb;refine imp (jH (r:=λxs H Q=>∃d v t,xs=[v,.ty T]/\qH ms [x] d=.ok (.bl t)/\Is X.K Tr H d v/\Q (.bl t) H) ?_ hg hm kF (aX ha (aX hty cX hs2) hs) (by decide) (by decide) hs hpl) λσ H Q ⟨g,env,os,r,m⟩=>⟨g,env,os,r,m.bind.mono λd _ q v H' s i=>?_⟩
 ·intro pins s σ H xs us Q I r h
  obtain⟨d,v,t,rfl,e,hd,q⟩:=h;obtain⟨u,w,rfl,ru,rQ⟩:=vals2 r;have ew:w=.type T:=rQ;subst ew;exact JM F I hd ru e λtk t' et=>by cases et;exact⟨.bl _,H,I.tok _,rfl,q⟩
 ·rcases EB ms [x] d with e|⟨t,e⟩
  ·rw[e]at q;exact q.elim
  ·rw[e]at q
   exact⟨d,v,t,rfl,e,i,q _ H' s rfl⟩
def Wx(Cs:List ae):TA:=λ_ H Q=>Q (Cs.map V.ref) H
def Z0:PA X [] (Wx []):=Hw cX λσ H Q q=>q
def GP{c:Str}{C:ae}{p:Pos}{es:List ak}{Cs:List ae}(Yh:X.mg c=aa (.ref C))(hr:PA X es (Wx Cs))(hg:Gl X c:=by rfl)(hdb:(c==("__debug__":Str))=false:=by decide)(hs:aq (.Name c p::es) X.env=(false,aK (.Name c p) X.env)::aq es X.env:=by rfl):
  PA X (.Name c p::es) (Wx (C::Cs)):=Hw (aX (AU hg Yh (v:=.ref C) rfl hdb) hr hs) λσ H Q q=>q
def Qa{ms cs:List Str}{Cs:List ae}{p tp:Pos}{x1}{a:ak}{es:List ak}{f:DE->R D}(F:Ve X.K ms cs Cs)(hm:X.mg "isinstance"=none)(ha:PE X a (tB X.K E f))(ht:PA X es (Wx Cs))(hl:Cs.length<=1000:=by simp only [jE,yz];decide)(hg:Gl X "isinstance":=by rfl)
  (hs:aq [a,.Tuple es x1 tp] X.env=(false,aK a X.env)::aq [.Tuple es x1 tp] X.env:=by rfl)(hpl:(bY pos (aq [.Tuple es x1 tp] X.env)).any (·.1)=false:=by rfl)(hs2:aq [.Tuple es x1 tp] X.env=(false,aK (.Tuple es x1 tp) X.env)::aq [] X.env:=by rfl):
  PE X (.Call (.Name "isinstance" p) [a,.Tuple es x1 tp] [] pos) (tD X.K E λenv=>(f env).bind (qH ms cs)):=by
 refine imp (jH (r:=λxs H Q=>∃d v t b,xs=[v,.ref t]/\H t=aa (.tup (Cs.map V.ref))/\qH ms cs d=.ok (.bl b)/\Is X.K Tr H d v/\Q (.bl b) H) ?_ hg hm kF (aX ha (aX (qK ht) cX hs2) hs) (by decide) (by decide) hs hpl) λσ H Q ⟨g,env,os,r,m⟩=>⟨g,env,os,r,m.bind.mono λd _ q v H' s i=>?_⟩
 ·intro pins s σ H xs us Q I r h
  obtain⟨d,v,t,b,rfl,hT,e,hd,q⟩:=h;obtain⟨u,w,rfl,ru,rQ⟩:=vals2 r;have ew:w=.ref t:=rQ;subst ew;obtain⟨_,its,rv,o,h1,h2,n,h3⟩:=(show gK X.prog X.w H s.heap t (.tup _)from I.hok t _ hT)
  have ei:its=Cs.map aS:=by
   clear F hl hT h3;generalize Cs=Cs at rv
   induction Cs generalizing its with
   |nil=>cases rv;rfl
   |cons c r ih=>
    cases rv with
    |cons x y=>
     have x':_=aS c:=x;rw[x',ih _ y];rfl
  subst ei;have ho:s.heap.get? t=aa ⟨.type "tuple",o.dict,.seq (Cs.map aS).toArray n,o.slots⟩:=by rw[h1];cases o;simp only at h2 h3;subst h2 h3;rfl
  cases d with
  |non=>
   have e1:D.bl false=.bl b:=R.ok.inj e;cases e1;cases hd;cases (show u=ah.none from ru);exact Nx F0 I.qy nu ho F.no (λz=>nomatch z) λtk=>⟨.bl _,H,I.tok _,rfl,q⟩
  |exc n=>
   have e':(if n∈ms then R.ok (D.bl (cs.any (sL · n)))else R.bad)=R.ok (.bl b):=e;split at e'
   ·rename_i hm
    have e1:=R.ok.inj e';cases e1;obtain⟨D,hn,xk,kk⟩:=F.ex n hm;obtain⟨a,rfl,ea⟩:=JL I hd ru hn;exact Nx (C0 xk) I.qy ea ho kk (λz=>nomatch z) λtk=>⟨.bl _,H,I.tok _,rfl,q⟩
   ·cases e'
  |bl _=>cases e
  |int _=>cases e
  |str _=>cases e
  |lst _=>cases e
  |tup _=>cases e
  |fn _=>cases e
 ·refine⟨by rw[gX];exact AS (Ht hl),λt Z1=>?_⟩
  rcases EB ms cs d with e|⟨b,e⟩
  ·rw[e]at q;exact q.elim
  ·rw[e]at q
   exact⟨d,v,t,b,rfl,aV,e,i.same (d8 Z1 _),q _ _ (s.trans (d8 Z1 _)) rfl⟩
def Tw(x y:D):Option D:=match x,y with
 |.bl a,.bl b=>aa (.bl (a==b))
 |x,.non=>t6 x .non
 |_,_=>none
def BR(x y:D):Option D:=match x,y with
 |.bl a,.bl b=>aa (.bl (a !=b))
 |x,.non=>Jp x .non
 |_,_=>none
def Wy(ne:Bool):R2:=λx y H Q=>(∃a b,x=.bl a/\y=.bl b/\Q (.bl (if ne then a !=b else a==b)) H)\/(y=.non/\Q (.bl (if ne then !decide (x=.non)else decide (x=.non))) H)
def JN:qz X (dE .Is) (Wy false):=by
 intro pins s σ H x y v u Q I rx ry h;rcases h with⟨a,b,rfl,rfl,q⟩|⟨rfl,q⟩
 ·cases rx;cases ry
  exact is_bool ⟨.bl _,H,I,rfl,q⟩
 ·exact pD pins s σ H x .non v u Q I rx ry ⟨rfl,q⟩
def JO:qz X (dE .IsNot) (Wy true):=by
 intro pins s σ H x y v u Q I rx ry h;rcases h with⟨a,b,rfl,rfl,q⟩|⟨rfl,q⟩
 ·cases rx;cases ry
  exact isnot_bool ⟨.bl _,H,I,rfl,q⟩
 ·exact L6 pins s σ H x .non v u Q I rx ry ⟨rfl,q⟩
def EC:ki X (Wy false) Tw:=λx y d e=>by
 unfold Tw at e;split at e
 ·cases e
  exact⟨_,rfl,λH v w Q h1 h2 q=>.inl ⟨_,_,h1,h2,q⟩⟩
 ·obtain⟨z,hz,k⟩:=lQ (X:=X) _ _ d e
  exact⟨z,hz,λH v w Q h1 h2 q=>.inr (k H v w Q h1 h2 q)⟩
 ·cases e
def HJ:ki X (Wy true) BR:=λx y d e=>by
 unfold BR at e;split at e
 ·cases e
  exact⟨_,rfl,λH v w Q h1 h2 q=>.inl ⟨_,_,h1,h2,q⟩⟩
 ·obtain⟨z,hz,k⟩:=Jq (X:=X) _ _ d e
  exact⟨z,hz,λH v w Q h1 h2 q=>.inr (k H v w Q h1 h2 q)⟩
 ·cases e
def Z2{x:Str}{i:Int}{t:Tok}(hm:X.mg x=aa (.int i t))(hg:Gl X x:=by rfl)(hdb:(x==("__debug__":Str))=false:=by decide):PE X (.Name x pos) (tD X.K E λ_=>.ok (.int i)):=
 imp (AU hg hm (v:=.int i) ⟨t,rfl⟩ hdb) λσ H Q ⟨g,env,os,r,m⟩=>m _ H (bS.refl H) rfl
end
theorem si{K:aj}{P:ae->Prop}{H:Hp}:∀{ns:List Int}{vs:List V},IsL K P H (cH ns) vs->vs=ns.map V.int
 |[],_,h=>h
 |n::ns,_,⟨v,r,e,p,q⟩=>by have p':v=.int n:=p;rw[e,p',si q];rfl
def kG:fy "ValueError"=aa (.type "ValueError"):=by decide +kernel
def JP(lo c:Int)(n:Nat):List D:=(eR n).map λi=>.int (lo+(i:Nat)*c)
abbrev RC(a b c:Int):Prop:= -1000000<=a/\a<=1000000/\ -1000000<=b/\b<=1000000/\c≠0/\ -1000000<=c/\c<=1000000
def JQ:List D->R (List D)
 |[.int a,.int b,.int c]=> @ite _ (RC a b c) (jK _) (.ok (JP a c (jD a b c).toNat)) .bad
 |_=>.bad
def vd{a b c:Int}(h:RC a b c):0<=jD a b c/\jD a b c<=2000000:=by
 unfold jD;have e:∀x y:Int,0<=x->x<2000000->1<=y->0<=x/y/\x/y<2000000:=λx y h1 h2 h3=>⟨Ny h1 (by omega),Int.lt_of_le_of_lt (Int.ediv_le_self _ h1) h2⟩
 split
 ·split
  ·have:=e (b-a-1) c (by omega) (by omega) (by omega)
   omega
  ·omega
 ·split
  ·have:=e (a-b-1) (-c) (by omega) (by omega) (by omega)
   omega
  ·omega
def Nz{a b c:Int}(h:RC a b c):NB a b c=true:=by have hs:=vd h;unfold NB;simp only [yh.Range.rangeFitsLong,dM,Gy,decide_eq_true_eq,beq_iff_eq];refine⟨by omega,.inr ?_⟩;split<;>simp only [dM,decide_eq_true_eq]<;>omega
def Yi(lo c:Int)(n:Nat):It:=⟨λi _=>i<n,λi H x H'=>H'=H/\x=.int (lo+(i:Nat)*c),λi _=>n<=i⟩
def C3{P:aO}{w:aD}{K:aj}{tg:ak}(it:ae)(lo c:Int)(n:Nat):Turn P w K tg (Yi lo c n) [it] it (λi h=>AX h it (lo+(i:Nat)*c) ((n:Int)-(i:Nat)) c) where
 mem:=by simp
 obj:=λi h st b hb=>by
  have e:b=it:=by simpa using hb
  subst e;exact⟨_,st,λv z=>by have z':LO _=Data.cell v:=z;cases z'⟩
 keep:=λi h h' st k=>k it (by simp) _ st
 item:=by intro X hP hw hK hc i pins s σ H E I hf st hg;subst hP hw hK;obtain⟨f0,f1,f2,f3,f4,f5⟩:=hf it (by simp);have W:=LP (prog:=X.prog) (w:=X.w) (I.ok.hd hc) it lo c n;refine W.item i s _ _ hg st λv h' tk hv IL kk=>?_;obtain⟨t,rfl⟩:=hv;have I1:Inv X pins σ H {s with heap:=h',toks:=tk}:=I.turned (λb o hb e=>kk b o (by simpa using hb) e) f0 f1 f3 f4 f5;exact⟨_,rfl,FH (s:={s with heap:=h',toks:=tk}) (n:="range_iterator") IL rfl rfl (by decide) ⟨.int (lo+i*c),H,I1,⟨t,rfl⟩,⟨rfl,rfl⟩,IL,λb hb=>(hf b hb).1⟩⟩
 done:=by intro X hP hw hK hc i pins s σ H E I hf st hg;subst hP hw hK;obtain⟨f0,f1,f2,f3,f4,f5⟩:=hf it (by simp);exact LQ (I.ok.hd hc) st (by have:n<=i:=hg;omega) λh' eb=>⟨rfl,I.turned (t':=s.toks) (λb o hb e=>eb b o hb e) f0 f1 f3 f4 f5⟩
 self:=λ_ _ _ _ _ st h=>LR st h
section
variable{X:Cx}{E:Str->Hp->Prop}{pos:Pos}{tg:ak}
def HK{pins:List (ae×Obj)}{σ:St}{H:Hp}{s:ai}{R:It->Hp->Prop}{E:ah->ai->Prop}{lo hi c:Int}{t u v:Tok}{tk:Nat}(I:Inv X pins σ H s)(h:RC lo hi c)
  (q:R (Yi lo c (jD lo hi c).toNat) H):aF (aG X.prog X.w) X.A (pyIter (.ref s.heap.objs.size)) (W4 X pins σ tg R) E {s with heap:=s.heap.push {cls:=.type "range",data:=.fields #[.int lo t,.int hi u,.int c v]},toks:=tk}:=by
 refine LU (IsRange.new ..) (Nz h) ?_;have I1:Inv X pins σ H {s with heap:=s.heap.push {cls:=.type "range",data:=.fields #[.int lo t,.int hi u,.int c v]},toks:=tk}:=I.kept λb o e=>ej _ e;refine⟨(s.heap.push {cls:=.type "range",data:=.fields #[.int lo t,.int hi u,.int c v]}).objs.size,[(s.heap.push {cls:=.type "range",data:=.fields #[.int lo t,.int hi u,.int c v]}).objs.size],_,_,H,rfl,
  I1.kept (t':=tk) λb o e=>ej _ e,C3 _ lo c (jD lo hi c).toNat,?_,λb hb=>?_,q⟩
 ·have e1:lo+((0:Nat):Int)*c=lo:=by simp
  have e2:(((jD lo hi c).toNat:Nat):Int)-((0:Nat):Int)=jD lo hi c:=by have:=vd h;omega
  show AX _ _ (lo+((0:Nat):Int)*c) ((((jD lo hi c).toNat:Nat):Int)-((0:Nat):Int)) c;rw[e1,e2];exact jC _ rfl
 ·have e:b=(s.heap.push {cls:=.type "range",data:=.fields #[.int lo t,.int hi u,.int c v]}).objs.size:=by simpa using hb
  subst e;exact I1.He (bZ _) (I1.hok.fresh (bZ _))
def IsL.Rj {K:aj}{P:ae->Prop}{H:Hp}{d d2 d3:D}{vs:List V}(h:IsL K P H [d,d2,d3] vs):∃v w z,vs=[v,w,z]/\Is K P H d v/\Is K P H d2 w/\Is K P H d3 z:=by obtain⟨v,r,rfl,p,q⟩:=h;obtain⟨w,z,rfl,p2,p3⟩:=IsL.Uz q;exact⟨v,w,z,rfl,p,p2,p3⟩
def vals3{x y z:V}{us:List ah}(r:Vals [x,y,z] us):∃u v w,us=[u,v,w]/\RelV x u/\RelV y v/\RelV z w:=by
 cases r with
 |cons p q=>
  obtain⟨v,w,rfl,p2,p3⟩:=vals2 q;exact⟨_,v,w,rfl,p,p2,p3⟩
def ND{K:aj}{P:ae->Prop}{H:Hp}(lo c:Int)(n:Nat):Yl K P (Yi lo c n) H (JP lo c n):=λi H' P' ex=>⟨λd hd=>by
 unfold JP at hd;rw[dZ]at hd;have hi:i<n:=by
  cases q:(eR n)[i]? with
  |none=>rw[q]at hd;cases hd
  |some j=>simpa using(dX.mp q).1
 rw[MQ hi]at hd;cases hd;refine⟨hi,λx H2 hy=>?_⟩;obtain⟨rfl,rfl⟩:=hy;exact⟨bS.refl _,rfl⟩,λh=>by
 unfold JP at h;exact pI (by simpa using h)⟩
def iR3{a b c:ak}{p:Pos}{f:DE->R (List D)}(hm:X.mg "range"=none)(ha:PA X [a,b,c] (yU X.K E f))(hg:Gl X "range":=by rfl)
  (hs:aq [a,b,c] X.env=(false,aK a X.env)::aq [b,c] X.env:=by rfl)(hpl:(bY pos (aq [b,c] X.env)).any (·.1)=false:=by rfl):
  PI X tg (.Call (.Name "range" p) [a,b,c] [] pos) (tI X.K E λenv=>(f env).bind JQ):=by
 intro pins s σ H R I ⟨g,env,os,r,m⟩;refine Call_ (vU I hg hm Jr (AY (gV (ha pos pins s σ H _ I ⟨g,env,os,r,m.bind.mono λds _ q vs H1 s1 i1=>(⟨ds,s1,i1,q⟩:∃ds,bS H H1/\IsL X.K Tr H1 ds vs/\Good E g.H₀ (JQ ds) _)⟩) λus s1 ⟨vs,H1,I1,r1,ds,sm,i1,q⟩=>?_) hs hpl));unfold JQ at q;split at q
 ·rename_i x y z
  split at q
  ·rename_i h
   obtain⟨v1,v2,v3,rfl,k1,k2,k3⟩:=IsL.Rj i1;have Wl:v1=.int x:=k1;have k2':v2=.int y:=k2;have k3':v3=.int z:=k3;subst Wl k2' k3';obtain⟨u1,u2,u3,rfl,⟨t1,rfl⟩,⟨t2,rfl⟩,⟨t3,rfl⟩⟩:=vals3 r1;refine call_range_3 h.2.2.2.2.1 (HK I1 h (q _ H1 sm (ND x z _))) (.inl (LY (by omega)))
  ·exact q.elim
 ·exact q.elim
end
def cl2(X:Cx)(scope:cO)(C:ae):List (Str×ae):=Ba (C+1) scope.names (DS X.env.cells scope.names [])
noncomputable def Z3(X:Cx)(scope:cO)(N:List Str)(s:ai)(H:Hp)(fp:List ae)(C:ae)(pl:List (ae×Obj)):Cx where
 prog:=X.prog
 w:=X.w
 K:=X.K
 mg:=X.mg
 base:=X.base
 A:=X.A
 N:=N
 s₀:=s
 H₀:=H
 env:=BA scope (cl2 X scope C) C X.env
 outer:=X.stack
 stack:=X.stack
 ex:=fp
 fn:=λx=>scope.names.lookup x==aa NF
 calm:=X.calm
 pn:=pl
 xe:=λ_ _=>False
structure Vf(X:Cx)(scope:cO)(N:List Str)(nt:Nat)(caps:List Nat):Prop where
 kind:scope.kind=.function
 apart:∀x,scope.names.lookup x=aa .free->(x,NF)∉scope.names
 names:∀y∈scope.names,y.2=.local->scope.names.lookup y.1=aa .local
 free:∀y∈scope.names,y.2=.free->X.env.kindOf y.1=aa .cell\/X.env.kindOf y.1=aa .free
 len:N.length=nt+caps.length
 nd:N.Nodup
 caps:∀(j i:Nat),caps[j]?=aa i->∃x,N[nt+j]?=aa x/\X.N[i]?=aa x/\scope.names.lookup x=aa .free/\D5 X.env.scope x
section
variable{K:aj}{g:Gh}{env:DE}{σ:St}{H H':Hp}{os:List ae}
def xo{α:Type}{l:List α}{i j:Nat}{x y:α}(e:(l.set i x)[j]?=aa y)(h:y≠x):i≠j/\l[j]?=aa y:=by
 by_cases hj:i=j
 ·subst hj
  exact(h (dA e)).elim
 ·rw[aT hj]at e
  exact⟨hj,e⟩
def Rel.Rk (r:Rel K g env σ H os){l:List ae}(s:bS H H')(hn:∀a∈l,H a=none):Ext (g.P os) (g.P (l++os)) H H':=
 ⟨λb o p e=>⟨p.1,λhm=>by
  rcases eU.mp hm with z|z
  ·rw[hn b z]at e;cases e
  ·exact p.2 z⟩,λb o _ e=>s b o e⟩
end
section
variable{X:Cx}{E:Str->Hp->Prop}{pos:Pos}
def Yj(i:Nat)(env:DE):R (List (List Int)):=match env[i]? with
 |some (.deep (.ls nss))=>.ok nss
 |_=>.bad
end
section
variable{X:Cx}{E:Str->Hp->Prop}{pos:Pos}{k:Nat}{fa:ae}{fd:aL}{st:aB}{ps:List Str}{x:Str}{p:Pos}{e:ak}{es:List ak}{f:DE->R (List D)}
def Yk:PE X e (tD X.K E λ_=>(.bad:R D)):=λpins s σ H Q I ⟨g,env,os,r,m⟩=>m.elim
abbrev Ym:=List (Str×(List D->R (List D)))
def FnR(X:Cx)(n:Str)(m:List D->R (List D)):Prop:=∃st ps fa fd k,Df X.K X.mg n st ps fa fd/\fz X.prog X.w X.K X.mg X.base lL k fa fd ps (QX X.K Jo m)/\bB k X.A
def FnT(X:Cx)(tab:Ym):Prop:=∀n m,tab.lookup n=aa m->FnR X n m
end
section
variable{X:Cx}{k:Nat}{fa:ae}{fd:aL}{st:aB}{ps:List Str}{x y:Str}{p pos fR pos':Pos}{e:ak}{es:List ak}{fr:DE->R (List D)}
def HL{c:ak}{A B:List aB}{ft:DE->R Bool}{fA fB:DE->R Out}(hc:PT X.Cz c (tT X.K EN ft))(hA:PB X A fA)(hB:PB X B fB):PB X [.If c A B pos] (λenv=>(ft env).ne.bind λb=>if b=true then fA env else fB env):=by
 intro pins s σ H De g env os I r nb hok;dsimp only at nb hok⊢;cases q:ft env with
 |err c=>rw[q]at nb;exact(nb rfl).elim
 |bad=>rw[q]at nb;exact(nb rfl).elim
 |ok b=>
  rw[q]at nb hok;simp only [R.ne,R.cg]at nb hok⊢;have main:aF (aG X.prog X.w) X.A (exec (.If c A B pos) X.env) (SP X pins De) (λev s'=>∃n H0 s0,(if b=true then fA env else fB env)=.err n/\Inv X pins σ H0 s0/\jz X.prog X.w X.stack H0 s0 (λc _ H'=>c=yB X.K n/\bS H H') ev s') s:=by
   refine wpAny_If (eY (hc pins s σ H (λd H1=>d=b/\bS H H1) (I.uF _) ⟨g,env,os,r,rW q λH1 s1=>⟨rfl,s1⟩⟩) (λd s1 ⟨H1,I1,e,Tz⟩=>?_) λ_ _ z=>dD z);subst e;have Wz:Inv X pins σ H1 s1:=I1.kQ;have fx:∀(f:DE->R Out)(body:List aB),PB X body f->f env≠.bad->(∀o,f env=.ok o->gD X.K g H os De o)->aF (aG X.prog X.w) X.A (execs body X.env) (SP X pins De) (λev s'=>∃n H0 s0,f env=.err n/\Inv X pins σ H0 s0/\jz X.prog X.w X.stack H0 s0 (λc _ H'=>c=yB X.K n/\bS H H') ev s') s1:=λf body hb n1 n2=>by refine eY (hb pins s1 σ H1 De g env os Wz (r.same Tz) n1 λo z=>gD.step (.same Tz os) (n2 o z)) (λ_ _ z=>z) λev s' z=>?_;obtain⟨n,H0,s0,ef,I0,e,T,C,H',w1,x1,n1,n2,n3,n4,ho,bare,un,hok,hc,sm⟩:=z;exact⟨n,H0,s0,ef,I0,e,T,C,H',w1,x1,n1,n2,n3,n4,ho,bare,un,hok,hc,Tz.trans sm⟩
   cases d with
   |true=>exact fx fA A hA nb hok
   |false=>exact fx fB B hB nb hok
  refine xW (eY main (λfl s1 z=>?_) λ_ _ z=>z);cases fl with
  |next=>exact rK z
  |ret v=>exact z
  |brk=>exact z
  |cont=>exact z
end
section
variable{K:aj}{g:Gh}{env:DE}{σ:St}{H H':Hp}{os:List ae}
def Rel.setC (r:Rel K g env σ H os)(s:bS H H')(i:Nat){c:Ct}{a:ae}{as:List ae}(hn:∀b∈a::as,H b=none)(dp:Dp K H' ((a::as)++os) a as c):
  Rel K g (env.set i (.deep c)) (σ.set i (aa (.ref a))) H' ((a::as)++os):=by
 have ap:=r.Rk s hn;have f:∀(j:Nat)(sl:Sl),(env.set i (Sl.deep c))[j]?=aa sl->sl≠.deep c->i≠j/\env[j]?=aa sl:=λj sl q hn=>xo q hn;have hnew:∀x∈a::as,x∉os:=λx hx hm=>by obtain⟨o,ho⟩:=(r.new x hm).2;rw[hn x hx]at ho;cases ho
 refine⟨by simp[r.len],r.ext.trans s,λj d q=>?_,λj xs q=>?_,λj k xs ys b q1 q2 q3 q4=>?_,λb hb=>?_,λj v q=>?_,?_⟩
 ·obtain⟨hj,q⟩:=f j _ q (λz=>nomatch z)
  obtain⟨v,h1,h2⟩:=r.val j d q;exact⟨v,by rw[aT hj];exact h1,Is.ext ap _ _ h2⟩
 ·obtain⟨hj,q⟩:=f j _ q (λz=>nomatch z)
  obtain⟨b,vs,h1,h2,h3,h4⟩:=r.own j xs q;exact⟨b,vs,by rw[aT hj];exact h1,fY _ h2,s _ _ h3,IsL.ext ap _ _ h4⟩
 ·obtain⟨hj,q1⟩:=f j _ q1 (λz=>nomatch z)
  obtain⟨hk,q2⟩:=f k _ q2 (λz=>nomatch z);rw[aT hj]at q3;rw[aT hk]at q4;exact r.inj j k xs ys b q1 q2 q3 q4
 ·rcases eU.mp hb with z|z
  ·exact⟨r.ext.free (hn b z),(dp.mem b z).2⟩
  ·obtain⟨h1,o,h2⟩:=r.new b z
   exact⟨h1,o,s _ _ h2⟩
 ·obtain⟨hj,q⟩:=f j _ q (λz=>nomatch z)
  rw[aT hj];exact r.raw j v q
 ·obtain⟨A,dd⟩:=r.ML
  refine⟨λj=>if j=i then a::as else A j,λj An q=>?_,λj An k xs b q1 q2 q3=>?_,λj k An WA Vg q1 q2 x hx=>?_⟩
  ·by_cases hj:j=i
   ·subst hj
    have z:=dA q;cases z;exact⟨a,as,if_pos rfl,by rw[jA (by rw[r.len];exact Ao q)],dp⟩
   ·have q':=q
    rw[aT (eT hj)]at q';obtain⟨b,bs,h1,h2,h3⟩:=dd.dp j An q';refine⟨b,bs,by rw[if_neg hj];exact h1,by rw[aT (eT hj)];exact h2,h3.to λx hx=>?_⟩;obtain⟨z1,o,z2⟩:=h3.mem x hx;exact⟨fY _ z1,by rw[s x o z2,z2]⟩
  ·obtain⟨hk,q2⟩:=f k _ q2 (λz=>nomatch z)
   rw[aT hk]at q3;show b∉if j=i then a::as else A j
   by_cases hj:j=i
   ·rw[if_pos hj]
    obtain⟨c,vs,h1,h2,_⟩:=r.own k xs q2;rw[q3]at h1;cases h1;exact λz=>hnew b z h2
   ·rw[if_neg hj]
    rw[aT (eT hj)]at q1;exact dd.ow j An k xs b q1 q2 q3
  ·show x∉if k=i then a::as else A k
   have DW:x∈if j=i then a::as else A j:=hx
   by_cases hj:j=i
   ·have hk:k≠i:=λz=>Vg (by rw[hj,z])
    rw[if_pos hj]at DW;rw[if_neg hk];rw[aT (eT hk)]at q2;exact λz=>hnew x DW (dd.mem q2 x z).1
   ·rw[if_neg hj]at DW
    rw[aT (eT hj)]at q1
    by_cases hk:k=i
    ·rw[if_pos hk]
     exact λz=>hnew x z (dd.mem q1 x DW).1
    ·rw[if_neg hk]
     rw[aT (eT hk)]at q2;exact dd.dj j k An WA Vg q1 q2 x DW
end
def Z4:D->R Int
 |.int i=>.ok i
 |_=>.bad
section
variable{X:Cx}{E:Str->Hp->Prop}{pos:Pos}
def Z5:D->R Str
 |.str i=>.ok i
 |_=>.bad
end
section
variable{X:Cx}{E:Str->Hp->Prop}{pos:Pos}
def Yn(T:List (Str×Int)):List (Str×PyData):=T.map λp=>(p.1,PyData.int p.2)
def Z6(K:aj)(a:ae)(T:List (Str×Int)):Prop:=KTD.tabLook KTD.flatLooks (λb=>K.lookup b) a (Yn T)=true
end
section
variable{X:Cx}{E:Str->Hp->Prop}{pos:Pos}
def Z7:D->R Unit
 |.int 1=>.ok ()
 |_=>.bad
end
section
variable{X:Cx}{E:Str->Hp->Prop}{pos:Pos}
def Z8:D->R Unit
 |.int 2=>.ok ()
 |_=>.bad
end
section
variable{X:Cx}{E:Str->Hp->Prop}{pos:Pos}
def NG{op Ea:jc}{r r':R2}{a b c:ak}{fa fb fc:DE->R D}{k k':D->D->Option D}(ho:qz X (dE op) r)(hk:ki X r k)(D6:qz X (dE Ea) r')(Je:ki X r' k')(ha:PE X a (tB X.K E fa))(hb:PE X b (tB X.K E fb))(hc:PE X c (tB X.K E fc))
  (hm:A2 [op,Ea] [b,c]=false:=by with_unfolding_all rfl):
  PT X (.Compare a [op,Ea] [b,c] pos) (tT X.K E λenv=>(fa env).bind λx=>(fb env).bind λy=>(R.of (k x y)).bind λd=>(cK d).bind λt=>if t=true then(fc env).bind λz=>(R.of (k' y z)).bind cK else .ok false):=
 CH (IW ho D6 ha hb hc hm) λσ H Q ⟨g,env,os,r,m⟩=>⟨g,env,os,r,m.bind.mono λx _ m1 v H1 s1 i1=>⟨g,env,os,r.same s1,m1.bind.mono λy _ m2 w H2 s2 i2=>by
  obtain⟨d,e,q⟩:=m2.bind.of;obtain⟨z,hz,hk⟩:=hk x y d e;refine hk H2 v w _ (i1.same s2) i2 ?_;cases d with
  |bl b=>
   cases hz;refine⟨b,rfl,?_⟩;cases b with
   |false=>
    rw[if_neg gu];exact⟨false,rfl,q H2 (s1.trans s2)⟩
   |true=>
    rw[if_pos rfl];have q':Good E g.H₀ ((fc env).bind λz=>(R.of (k' y z)).bind cK) _:=q;refine⟨g,env,os,r.same (s1.trans s2),q'.bind.mono λz _ m3 w3 H3 s3 i3=>?_⟩;obtain⟨d',e',q3⟩:=m3.bind.of;obtain⟨z',Uv,Je⟩:=Je y z d' e';refine Je H3 w w3 _ (i2.same s3) i3 ?_;cases d' with
    |bl b'=>
     cases Uv;exact⟨b',rfl,q3 H3 (s1.trans (s2.trans s3))⟩
    |non=>exact q3.elim
    |lst _=>exact q3.elim
    |int _=>exact q3.elim
    |str _=>exact q3.elim
    |exc _=>exact q3.elim
    |fn _=>exact q3.elim
    |tup _=>exact q3.elim
  |non=>exact q.elim
  |lst _=>exact q.elim
  |int _=>exact q.elim
  |str _=>exact q.elim
  |exc _=>exact q.elim
  |fn _=>exact q.elim
  |tup _=>exact q.elim⟩⟩
end
section
open PySem.SeqAt PySem.AutoSeq1 PySem.MeetsSeq PySem.MeetsSeq2 PySem.MeetsSeq3
variable{l m:ae}{its its':Array ah}
end
open PySem.W (KasT kas_sort kas_count kas_bin kas_place kas_desc kas_asc kas_tail3 kas_descPart kas_rev kas_ask kat_run kat_snds)
def Yo{α:Type}(lt:Nat->Nat->Bool):KasT α->α
 |.ret a=>a
 |.ask i j k=>Yo lt (k (lt i j))
def InP{α:Type}(n:Nat)(P:α->Prop):KasT α->Prop
 |.ret a=>P a
 |.ask i j k=>i<n/\j<n/\∀b,InP n P (k b)
def Bd(n:Nat)(p:Array Nat):Prop:=p.Perm (eR n).toArray
section
variable{X:Cx}{E:Str->Hp->Prop}{pos:Pos}
def Z9:D->R Unit
 |.int 0=>.ok ()
 |_=>.bad
end
def dfm{K:aj}{h:au}{mg:Str->Option ah}{x:Str}{st:aB}{ps:List Str}{f:ae}{oc:ah}{od an:Option ae}{Bc:Array (Option ah)}{kV doc pm cdv ct:ah}(X:K.In h)(G:h.Ns bU mg)(a:cV K bU x=aa (aa (.ref f)))
  (l:K.lookup f=aa ⟨oc,od,.func (fE x x (gZ st) (dm st) (az st) .none kV doc pm an cdv ct),Bc⟩)(c:uM K cdv x=true)(k:jF K (.ref f)=true)
  (hb:∀(kV doc pm:ah)(an:Option ae)(cdv ct:ah)(us:List ah),us.length=ps.length->jG (fE x x (gZ st) (dm st) (az st) .none kV doc pm an cdv ct) ⟨us,[]⟩=bJ (ps.zip us)):
  Df K mg x st ps f (fE x x (gZ st) (dm st) (az st) .none kV doc pm an cdv ct):=⟨Em l c k,(Em l c k).binds hb,fZ X G a,a⟩
def wg{N P:List Str}{sc:cO}(h1:sc.kind=.function:=by rfl)(h2:sc.isCoroutine=false:=by rfl)(h3:sc.isGenerator=false:=by rfl)(h4:N.Nodup:=by decide +kernel)(h5:N.take P.length=P:=by rfl)
  (h6:∀x∈P,sc.names.lookup x=aa .local\/sc.names.lookup x=aa .cell:=by decide +kernel)(h7:∀y∈sc.names,y.2≠.free:=by decide +kernel):bh N P sc:=⟨h1,h2,h3,h4,h5,h6,h7⟩
def scB(d:D):Bool:=(toV d).isSome
def aaa:D->Bool
 |.tup xs=>xs.all scB
 |_=>false
def abH(H:Hp)(c:ae):Prop:=∃vs,Rd H c (.lst vs)
section
variable{K:aj}{g:Gh}{env:DE}{σ:St}{H H':Hp}{os:List ae}
def Rel.ED (r:Rel K g env σ H os){i:Nat}{c:Ct}(e:env[i]?=aa (.deep c)):∃a as,σ[i]?=aa (aa (.ref a))/\Dp K H os a as c/\(∀x∈a::as,x∈os)/\
  ∀{H':Hp}{mV:List ae}{c':Ct},lZ H (a::as) H' (a::mV)->Dp K H' (a::mV) a mV c'->∃dS,Rel K g (env.set i (.deep c')) σ H' dS/\lZ H os H' dS:=by
 obtain⟨A,dd⟩:=r.ML;obtain⟨a,as,h1,h2,h3⟩:=dd.dp i c e;have sub:∀x∈a::as,x∈os:=λx hx=>(h3.mem x hx).1;refine⟨a,as,h2,h3,sub,λ{H' mV c'} s dp=>⟨(a::mV)++os,?_,?_⟩⟩
 rotate_left
 ·exact⟨λx hx=>(eU.mp hx).elim (λz=>(s.own x z).imp (sub x) id) .inl,s.grow,λx o hn hx=>s.keep x o (λz=>hn (sub x z)) hx⟩
 have S:lZ H os H' ((a::mV)++os):=⟨λx hx=>(eU.mp hx).elim (λz=>(s.own x z).imp (sub x) id) .inl,s.grow,λx o hn hx=>s.keep x o (λz=>hn (sub x z)) hx⟩
 have ap:Ext (g.P os) (g.P ((a::mV)++os)) H H':=S.ext;have f:∀(j:Nat)(sl:Sl),(env.set i (Sl.deep c'))[j]?=aa sl->sl≠.deep c'->i≠j/\env[j]?=aa sl:=λj sl q hn=>xo q hn;have al:∀x,(∃o,H x=aa o)->∃o,H' x=aa o:=λx ⟨o,ho⟩=>by
  cases q:H' x with
  |none=>rw[s.grow x q]at ho;cases ho
  |some o'=>exact⟨o',rfl⟩
 have Yp:∀x,x∉a::as->(∃o,H x=aa o)->x∉a::mV:=λx hx ⟨o,ho⟩ z=>(s.own x z).elim hx λq=>by rw[q]at ho;cases ho
 refine⟨by simp[r.len],λx o hx=>S.keep x o (λz=>by rw[(r.new x z).1]at hx;cases hx) (r.ext x o hx),λj d q=>?_,λj xs q=>?_,λj k xs ys b q1 q2 q3 q4=>?_,λb hb=>?_,λj v q=>?_,?_⟩
 ·obtain⟨hj,q⟩:=f j _ q (λz=>nomatch z)
  obtain⟨v,z1,z2⟩:=r.val j d q;exact⟨v,z1,Is.ext ap _ _ z2⟩
 ·obtain⟨hj,q⟩:=f j _ q (λz=>nomatch z)
  obtain⟨b,vs,z1,z2,z3,z4⟩:=r.own j xs q;have hb:=dd.ow i c j xs b e q z1;rw[h1]at hb;exact⟨b,vs,z1,fY _ z2,s.keep b _ hb z3,IsL.ext ap _ _ z4⟩
 ·obtain⟨hj,q1⟩:=f j _ q1 (λz=>nomatch z)
  obtain⟨hk,q2⟩:=f k _ q2 (λz=>nomatch z);exact r.inj j k xs ys b q1 q2 q3 q4
 ·rcases eU.mp hb with z|z
  ·exact⟨(s.own b z).elim (λq=>(r.new b (sub b q)).1) λq=>r.ext.free q,(dp.mem b z).2⟩
  ·exact⟨(r.new b z).1,al b (r.new b z).2⟩
 ·exact r.raw j v (f j _ q (λz=>nomatch z)).2
 ·refine⟨λj=>if j=i then a::mV else A j,λj An q=>?_,λj An k xs b q1 q2 q3=>?_,λj k An WA Vg q1 q2 x hx=>?_⟩
  ·by_cases hj:j=i
   ·subst hj
    have z:=dA q;cases z;exact⟨a,mV,if_pos rfl,h2,dp.to λx hx=>⟨xV _ hx,rfl⟩⟩
   ·rw[aT (eT hj)]at q
    obtain⟨b,bs,z1,z2,z3⟩:=dd.dp j An q;refine⟨b,bs,by rw[if_neg hj];exact z1,z2,z3.to λx hx=>?_⟩;obtain⟨y1,o,y2⟩:=z3.mem x hx;have hn:=dd.dj j i An c hj q e x (by rw[z1];exact hx);rw[h1]at hn;exact⟨fY _ y1,by rw[s.keep x o hn y2,y2]⟩
  ·obtain⟨hk,q2⟩:=f k _ q2 (λz=>nomatch z)
   show b∉if j=i then a::mV else A j
   by_cases hj:j=i
   ·rw[if_pos hj]
    obtain⟨b',vs,y1,y2,y3,_⟩:=r.own k xs q2;rw[q3]at y1;cases y1;have hb:=dd.ow i c k xs b e q2 q3;rw[h1]at hb;exact Yp b hb ⟨_,y3⟩
   ·rw[if_neg hj]
    rw[aT (eT hj)]at q1;exact dd.ow j An k xs b q1 q2 q3
  ·show x∉if k=i then a::mV else A k
   have DW:x∈if j=i then a::mV else A j:=hx
   by_cases hj:j=i
   ·have hk:k≠i:=λz=>Vg (by rw[hj,z])
    rw[if_pos hj]at DW;rw[if_neg hk];rw[aT (eT hk)]at q2;intro z;have hn:=dd.dj k i WA c hk q2 e x z;rw[h1]at hn;exact Yp x hn (dd.mem q2 x z).2 DW
   ·rw[if_neg hj]at DW
    rw[aT (eT hj)]at q1
    by_cases hk:k=i
    ·rw[if_pos hk]
     have hn:=dd.dj j i An c hj q1 e x DW;rw[h1]at hn;exact Yp x hn (dd.mem q1 x DW).2
    ·rw[if_neg hk]
     rw[aT (eT hk)]at q2;exact dd.dj j k An WA Vg q1 q2 x DW
end
abbrev gq:=Int×List Int×List D
def e7(o:Option ae)(s:gq):Ct:=.lm o s.1 s.2.1 s.2.2
def BU{K:aj}{H:Hp}{os:List ae}{a:ae}{as:List ae}{o:Option ae}{s:gq}(d:Dp K H os a as (e7 o s)):Dp K H os a as (e7 none s):=⟨λ_ z=>(nomatch z),d.2⟩
def JR{K:aj}{H H':Hp}{os dS:List ae}{a:ae}{as mV:List ae}{o:Option ae}{s s':gq}(d:Dp K H os a as (e7 o s))(d':Dp K H' dS a mV (e7 none s')):Dp K H' dS a mV (e7 o s'):=⟨d.1,d'.2⟩
def Vh{K:aj}{H:Hp}{os:List ae}{a:ae}{as:List ae}{s:gq}(d:Dp K H os a as (e7 none s)):Dp K H os a as (e7 (aa a) s):=⟨λ_ z=>(fj.inj z).symm,d.2⟩
noncomputable def Yq(K:aj)(m:gq->List D->R (D×gq)):Sp:=λvs H Q E=>∃(a:ae)(as:List ae)(s:gq)(ds:List D)(ws:List V),vs=.ref a::ws/\Dp K H (a::as) a as (e7 none s)/\IsL K (λx=>x∉a::as) H ds ws/\match m s ds with
 |.ok (d,s')=>∀v H' mV,lZ H (a::as) H' (a::mV)->Dp K H' (a::mV) a mV (e7 none s')->toV d=aa v->Q v H'
 |.err n=>∀H',bS H H'->E (yB K n) none H'
 |.bad=>False
abbrev vN(P:aO)(w:aD)(K:aj)(mg:Str->Option ah)(base:au)(CX:Hl)(k:Nat)(f:ae)(fd:aL)(ps:List Str)(m:gq->List D->R (D×gq)):Prop:=fz P w K mg base CX k f fd ps (Yq K m)
def ve(n:Nat)(c:Ct)(ds:List D):DE:=.deep c::(ds.map .val++gx (n-1-ds.length) .no)
def gM(H:Hp)(xs:List ae):Gh:=⟨λ_=>True,λx=> @ite _ (x∈xs) (jK _) none (H x)⟩
def Qc{H:Hp}{xs:List ae}{x:ae}(h:x∈xs):(gM H xs).H₀ x=none:=if_pos h
def Rl{H:Hp}{xs:List ae}{x:ae}(h:x∉xs):(gM H xs).H₀ x=H x:=if_neg h
def EE{K:aj}{N:List Str}{H:Hp}{ds:List D}{ws:List V}{a:ae}{as:List ae}{c:Ct}(dp:Dp K H (a::as) a as c)(h:IsL K (λx=>x∉a::as) H ds ws):Rel K (gM H (a::as)) (ve N.length c ds) (L2.start N (.ref a::ws)) H (a::as):=by
 have hl:=h.length;have ev:∀(i:Nat)(sl:Sl),(ve N.length c ds)[i]?=aa sl->(i=0/\sl=.deep c)\/(∃j d,i=j+1/\ds[j]?=aa d/\sl=.val d)\/sl=.no:=λi sl e=>by
  cases i with
  |zero=>exact .inl ⟨rfl,(fj.inj e).symm⟩
  |succ j=>
   have e':(ds.map Sl.val++gx (N.length-1-ds.length) Sl.no)[j]?=aa sl:=e
   by_cases hj:j<ds.length
   ·rw[ir (by simpa using hj),dZ]at e'
    cases q:ds[j]? with
    |none=>rw[q]at e';cases e'
    |some d=>rw[q]at e';exact .inr (.inl ⟨j,d,rfl,q,(fj.inj e').symm⟩)
   ·rw[gF (by simpa using hj)]at e'
    exact .inr (.inr (NH (yg e')))
 refine⟨?_,λx o hx=>?_,λi d e=>?_,λi xs e=>?_,λi j xs ys b e=>?_,λx hx=>⟨Qc hx,(dp.mem x hx).2⟩,λi v e=>?_,?_⟩
 ·show((V.ref a::ws).map aa++gx (N.length-(V.ref a::ws).length) none).length=_
  unfold ve;simp only [bz,gX,jE,Bb];omega
 ·by_cases q:x∈a::as
  ·rw[Qc q]at hx;cases hx
  ·rw[Rl q]at hx;exact hx
 ·rcases ev i _ e with⟨_,z⟩|⟨j,d',rfl,q,z⟩|z
  ·cases z
  ·cases z
   obtain⟨v,h1,h2⟩:=h.get q;refine⟨v,?_,Is.ext ⟨λx o p _=>⟨.inl trivial,p⟩,λ_ _ _ z=>z⟩ _ _ h2⟩;show(ws.map aa++gx (N.length-(V.ref a::ws).length) none)[j]?=_;have hj:j<ws.length:=(dX.mp h1).1;rw[ir (by simpa using hj),dZ,h1];rfl
  ·cases z
 ·rcases ev i _ e with⟨_,z⟩|⟨_,_,_,_,z⟩|z<;>cases z
 ·rcases ev i _ e with⟨_,z⟩|⟨_,_,_,_,z⟩|z<;>cases z
 ·rcases ev i _ e with⟨_,z⟩|⟨_,_,_,_,z⟩|z<;>cases z
 ·have hd:∀(i:Nat)(nss:Ct),(ve N.length c ds)[i]?=aa (.deep nss)->i=0/\nss=c:=λi nss e=>by
   rcases ev i _ e with⟨z1,z⟩|⟨_,_,_,_,z⟩|z<;>cases z;exact⟨z1,rfl⟩
  refine⟨λ_=>a::as,λi nss e=>?_,λi nss j xs b _ e=>?_,λi j nss An hij e1 e2=>?_⟩
  ·obtain⟨rfl,rfl⟩:=hd i nss e
   exact⟨a,as,rfl,rfl,dp⟩
  ·rcases ev j _ e with⟨_,z⟩|⟨_,_,_,_,z⟩|z<;>cases z
  ·exact(hij ((hd i nss e1).1.trans (hd j An e2).1.symm)).elim
def Rm{K:aj}{P:ae->Prop}{H:Hp}{d:D}{v w:V}(h:toV d=aa w)(i:Is K P H d v):toV d=aa v:=by
 cases d<;>cases h
 all_goals (cases i;rfl)
def y9(i:Nat)(env:DE):Option (Option ae×gq):=match env[i]? with
 |some (.deep (.lm o n ns ds))=>aa (o,n,ns,ds)
 |_=>none
def qP{i:Nat}{env:DE}{o:Option ae}{s:gq}(h:y9 i env=aa (o,s)):env[i]?=aa (.deep (e7 o s)):=by
 unfold y9 at h;split at h
 ·rename_i e
  cases h;exact e
 ·cases h
def BV(a:ae):Out->R (D×gq)
 |.vM d e=>match y9 0 e with
  |some (o,s)=>if o=aa a/\(toV d).isSome=true then .ok (d,s)else .bad
  |none=>.bad
 |.nx e=>match y9 0 e with
  |some (o,s)=>if o=aa a then .ok (.non,s)else .bad
  |none=>.bad
 |_=>.bad
def NI{K:aj}{H H':Hp}{a:ae}{as mV dS:List ae}{c:Ct}(z:lZ H (a::as) H' dS)(dp:Dp K H' dS a mV c):lZ H (a::as) H' (a::mV):=⟨λx hx=>z.own x (dp.mem x hx).1,z.grow,z.keep⟩
section
variable{P:aO}{w:aD}{K:aj}{mg:Str->Option ah}{base:au}
def okM{x qual:Str}{st:aB}{f:ae}{fd:aL}{N ps:List Str}{k:Nat}{b:DE->R Out}{m:gq->List D->R (D×gq)}(F:Br K x qual st f fd)(S:bh N ps (az st))
  (hm:∀a s ds p,m s ds=.ok p->ds.length+1=ps.length/\∃o,b (ve N.length (e7 (aa a) s) ds)=.ok o/\BV a o=.ok p)(hne:∀s ds n,m s ds≠.err n)
  (hb:∀(cdv:ah)(A:aW)(outer:List Env)(s:ai)(H:Hp)(E:XK),bB k (A.deeper (dF qual (az st) s.heap.objs.size f cdv))->qG (gn lL P w K mg base N qual (az st) f cdv A outer s H E).Cz (dm st) (tS K EN b)):
  vN P w K mg base lL (k+1) f fd ps m:=by
 refine F.ok S (λvs H Q E h=>?_) (λcdv A outer s H vs Q E hr h=>?_)
 ·obtain⟨a,as,c,ds,ws,rfl,dp,i,h⟩:=h
  cases e:m c ds with
  |ok p=>rw[jE,i.length];exact(hm a c ds p e).1
  |err n=>exact(hne c ds n e).elim
  |bad=>rw[e]at h;exact h.elim
 ·obtain⟨a,as,c,ds,ws,rfl,dp,i,h⟩:=h
  refine⟨_,hb cdv A outer s H E hr,⟨gM H (a::as),ve N.length (e7 (aa a) c) ds,a::as,EE (Vh dp) i,?_⟩⟩;cases e:m c ds with
  |err n=>exact(hne c ds n e).elim
  |bad=>rw[e]at h;exact h.elim
  |ok p=>
   obtain⟨d,s'⟩:=p;rw[e]at h;obtain⟨_,o,eb,e'⟩:=hm a c ds _ e;rw[eb];have fin:∀(σ':St)(H':Hp)(dS:List ae)(e0:DE)(s0:gq),y9 0 e0=aa (aa a,s0)->Rel K (gM H (a::as)) e0 σ' H' dS->lZ H (a::as) H' dS->∃mV,lZ H (a::as) H' (a::mV)/\Dp K H' (a::mV) a mV (e7 none s0):=λσ' H' dS e0 s0 h0 r' z=>by obtain⟨A,dd⟩:=r'.ML;obtain⟨a2,mV,z1,z2,z3⟩:=dd.dp 0 _ (qP h0);obtain rfl:a=a2:=z3.1 a rfl;exact⟨mV,NI z z3,BU (z3.to λy hy=>⟨hy,rfl⟩)⟩
   cases o with
   |vM d0 e0=>
    unfold BV at e';dsimp only at e';split at e'
    ·rename_i o0 s0 h0
     split at e'
     ·rename_i ha
      cases e';obtain⟨rfl,h2⟩:=ha;obtain⟨v0,h1⟩:=yf.mp h2;intro v σ' H' dS r' z iv;obtain⟨mV,q1,q2⟩:=fin σ' H' dS e0 s' h0 r' z;exact h v H' mV q1 q2 (Rm h1 iv)
     ·cases e'
    ·cases e'
   |nx e0=>
    unfold BV at e';dsimp only at e';split at e'
    ·rename_i o0 s0 h0
     split at e'
     ·rename_i ha
      cases e';subst ha;intro σ' H' dS r' z;obtain⟨mV,q1,q2⟩:=fin σ' H' dS e0 s' h0 r' z;exact h .non H' mV q1 q2 rfl
     ·cases e'
    ·cases e'
   |rt _=>cases e'
   |xm _=>cases e'
   |Iu _=>cases e'
   |Ip _=>cases e'
   |Ir _=>cases e'
   |Io _=>cases e'
   |bk _=>cases e'
   |ct _=>cases e'
end
def DX(K:aj)(E:Str->Hp->Prop)(f:DE->R (D×DE)):TE:=λσ H Q=>∃g env os,Rel K g env σ H os/\Good E g.H₀ (f env) λp=>∀v H' dS,Rel K g p.2 σ H' dS->lZ H os H' dS->Is K Tr H' p.1 v->Q v H'
def DY(K:aj)(E:Str->Hp->Prop)(f:DE->R (Bool×DE)):TT:=λσ H Q=>∃g env os,Rel K g env σ H os/\Good E g.H₀ (f env) λp=>∀H' dS,Rel K g p.2 σ H' dS->lZ H os H' dS->Q p.1 H'
section
variable{X:Cx}{E:Str->Hp->Prop}{pos:Pos}
def C4{e:ak}{f:DE->R Bool}(h:PT X e (tT X.K E f)):PT X e (DY X.K E λenv=>(f env).bind λb=>.ok (b,env)):=
 CH h λσ H Q ⟨g,env,os,r,m⟩=>⟨g,env,os,r,m.bind.mono λb _ q H' s=>q H' os (r.same s) (.same s os)⟩
def Yr{e:ak}{f:DE->R (Bool×DE)}(h:PT X e (DY X.K E f)):PT X (.UnaryOp .Not e pos) (DY X.K E λenv=>(f env).bind λp=>.ok (!p.1,p.2)):=
 CH (IF h) λσ H Q ⟨g,env,os,r,m⟩=>⟨g,env,os,r,m.bind.mono λp _ q H' dS r' z=>q H' dS r' z⟩
def Qd{a:ak}{f:DE->R (Bool×DE)}(h:PT X a (DY X.K E f)):PW X (.BoolOp .And [a] pos) (DY X.K E f):=pw_and1 h
def Rn{a:ak}{f:DE->R (Bool×DE)}(h:PT X a (DY X.K E f)):PW X (.BoolOp .Or [a] pos) (DY X.K E f):=pw_or1 h
def Vi{a b:ak}{rest:List ak}{f k:DE->R (Bool×DE)}(h:PT X a (DY X.K E f))(h2:PW X (.BoolOp .And (b::rest) pos) (DY X.K E k)):PW X (.BoolOp .And (a::b::rest) pos) (DY X.K E λenv=>(f env).bind λp=>if p.1=true then k p.2 else .ok (false,p.2)):=
 MM (pw_and h h2) λσ H Q ⟨g,env,os,r,m⟩=>⟨g,env,os,r,m.bind.mono λp _ q H' dS r' z=>by
  obtain⟨t,e'⟩:=p;cases t with
  |true=>exact⟨g,e',dS,r',Good.mono (show Good E g.H₀ (k e') _ from q) λb _ q2 H2 Iv r2 z2=>q2 H2 Iv r2 (z.trans z2)⟩
  |false=>exact q H' dS r' z⟩
def Ys{a b:ak}{rest:List ak}{f k:DE->R (Bool×DE)}(h:PT X a (DY X.K E f))(h2:PW X (.BoolOp .Or (b::rest) pos) (DY X.K E k)):PW X (.BoolOp .Or (a::b::rest) pos) (DY X.K E λenv=>(f env).bind λp=>if p.1=true then .ok (true,p.2)else k p.2):=
 MM (pw_or h h2) λσ H Q ⟨g,env,os,r,m⟩=>⟨g,env,os,r,m.bind.mono λp _ q H' dS r' z=>by
  obtain⟨t,e'⟩:=p;cases t with
  |false=>exact⟨g,e',dS,r',Good.mono (show Good E g.H₀ (k e') _ from q) λb _ q2 H2 Iv r2 z2=>q2 H2 Iv r2 (z.trans z2)⟩
  |true=>exact q H' dS r' z⟩
def Yt{e:ak}{f:DE->R (D×DE)}(h:PE X e (DX X.K E f))(he:∀whole,isTrue e X.env whole=(do let v<-whole;m9 e.pos;lH [v] (truthy v)):=by intro _;rfl):PT X e (DY X.K E λenv=>(f env).bind λp=>(cK p.1).bind λb=>.ok (b,p.2)):=
 CH (IE h he) λσ H Q ⟨g,env,os,r,m⟩=>⟨g,env,os,r,m.bind.mono λp _ q v H' dS r' z i=>by
  obtain⟨d,e'⟩:=p;cases d with
  |bl b=>exact⟨b,i,q H' dS r' z⟩
  |non=>exact q.elim
  |lst _=>exact q.elim
  |int _=>exact q.elim
  |str _=>exact q.elim
  |exc _=>exact q.elim
  |fn _=>exact q.elim
  |tup _=>exact q.elim⟩
def Ro{op:jc}{r:R2}{a b:ak}{fa:DE->R (D×DE)}{fb:DE->R D}{k:D->D->Option D}(ho:qz X (dE op) r)(hk:ki X r k)(ha:PE X a (DX X.K E fa))(hb:PE X b (tB X.K E fb))(hm:pF op b=false):
  PE X (.Compare a [op] [b] pos) (DX X.K E λenv=>(fa env).bind λp=>(fb p.2).bind λy=>(R.of (k p.1 y)).bind λd=>.ok (d,p.2)):=
 imp (FI ho ha hb hm) λσ H Q ⟨g,env,os,r,m⟩=>⟨g,env,os,r,m.bind.mono λp _ m1 v H1 Cj r1 z1 i1=>⟨g,p.2,Cj,r1,m1.bind.mono λy _ m2 w H2 s2 i2=>by obtain⟨d,e,q⟩:=m2.bind.of;obtain⟨z,hz,hk⟩:=hk p.1 y d e;exact hk H2 v w Q (i1.same s2) i2 (q z H2 Cj (r1.same s2) (z1.trans (.same s2 Cj)) (Is.sc hz))⟩⟩
def C5{op:jc}{r:R2}{a b:ak}{fa:DE->R (D×DE)}{fb:DE->R D}{k:D->D->Option D}(ho:qz X (dE op) r)(hk:ki X r k)(ha:PE X a (DX X.K E fa))(hb:PE X b (tB X.K E fb))(hm:pF op b=false):
  PT X (.Compare a [op] [b] pos) (DY X.K E λenv=>(fa env).bind λp=>(fb p.2).bind λy=>(R.of (k p.1 y)).bind λd=>(cK d).bind λt=>.ok (t,p.2)):=
 CH (lJ ho ha hb hm) λσ H Q ⟨g,env,os,r,m⟩=>⟨g,env,os,r,m.bind.mono λp _ m1 v H1 Cj r1 z1 i1=>⟨g,p.2,Cj,r1,m1.bind.mono λy _ m2 w H2 s2 i2=>by
  obtain⟨d,e,q⟩:=m2.bind.of;obtain⟨z,hz,hk⟩:=hk p.1 y d e;refine hk H2 v w _ (i1.same s2) i2 ?_;cases d with
  |bl b=>
   cases hz;exact⟨b,rfl,q H2 Cj (r1.same s2) (z1.trans (.same s2 Cj))⟩
  |non=>exact q.elim
  |lst _=>exact q.elim
  |int _=>exact q.elim
  |str _=>exact q.elim
  |exc _=>exact q.elim
  |fn _=>exact q.elim
  |tup _=>exact q.elim⟩⟩
def Qe{e:ak}{f:DE->R D}(h:PE X e (tB X.K E f)):PE X e (DX X.K E λenv=>(f env).bind λd=>.ok (d,env)):=
 imp h λσ H Q ⟨g,env,os,r,m⟩=>⟨g,env,os,r,m.bind.mono λd _ q v H' s i=>q v H' os (r.same s) (.same s os) i⟩
def Vj{op}{a:ak}{f:DE->R (D×DE)}(h:PE X a (DX X.K E f)):PE X (.BoolOp op [a] pos) (DX X.K E f):=IG h
def Rp{a b:ak}{rest:List ak}{f k:DE->R (D×DE)}(h:PE X a (DX X.K E f))(h2:PE X (.BoolOp .And (b::rest) pos) (DX X.K E k)):PE X (.BoolOp .And (a::b::rest) pos) (DX X.K E λenv=>(f env).bind λp=>(cK p.1).bind λt=>if t=true then k p.2 else .ok (.bl false,p.2)):=
 imp (II h h2) λσ H Q ⟨g,env,os,r,m⟩=>⟨g,env,os,r,m.bind.mono λp _ q v H' dS r' z i=>by
  obtain⟨d,e'⟩:=p;cases d with
  |bl b=>
   refine⟨b,i,?_⟩;cases b with
   |true=>
    rw[if_pos rfl];exact⟨g,e',dS,r',Good.mono (show Good E g.H₀ (k e') _ from q) λp2 _ q2 v2 H2 Iv r2 z2 i2=>q2 v2 H2 Iv r2 (z.trans z2) i2⟩
   |false=>
    rw[if_neg gu];exact q _ H' dS r' z rfl
  |non=>exact q.elim
  |lst _=>exact q.elim
  |int _=>exact q.elim
  |str _=>exact q.elim
  |exc _=>exact q.elim
  |fn _=>exact q.elim
  |tup _=>exact q.elim⟩
def HM{c:ak}{a b:List aB}{fc:DE->R (Bool×DE)}{fa fb:DE->R Out}(hc:PT X c (DY X.K E fc))(ha:qG X a (tS X.K E fa))(hb:qG X b (tS X.K E fb)):PS X (.If c a b pos) (tS X.K E λenv=>(fc env).bind λp=>if p.1=true then fa p.2 else fb p.2):=
 uT (wZ hc ha hb) λDe σ H ⟨g,env,os,r,m⟩=>⟨g,env,os,r,m.bind.mono λp _ q H' dS r' z=>by
  obtain⟨t,e'⟩:=p;cases t with
  |true=>
   rw[if_pos rfl];exact⟨g,e',dS,r',Good.mono (show Good E g.H₀ (fa e') _ from q) λo _ q2=>gD.step z q2⟩
  |false=>
   rw[if_neg gu];exact⟨g,e',dS,r',Good.mono (show Good E g.H₀ (fb e') _ from q) λo _ q2=>gD.step z q2⟩⟩
def za{e:ak}{f:DE->R D}(he:PE X e (tD X.K E f)):PS X (.Return (aa e) pos) (tS X.K E λenv=>(f env).bind λd=>.ok (.vM d env)):=
 uT (l9 he) λDe σ H ⟨g,env,os,r,m⟩=>⟨g,env,os,r,m.bind.mono λd _ q v H' s i=>(show gD X.K g H os De (.vM d env)from q) v σ H' os (r.same s) (.same s os) i⟩
def Vk:D->R D
 |.bl b=>.ok (.bl b)
 |_=>.bad
def Rq{e:ak}{f:DE->R (D×DE)}(he:PE X e (DX X.K E f)):PS X (.Return (aa e) pos) (tS X.K E λenv=>(f env).bind λp=>(Vk p.1).bind λd=>.ok (.vM d p.2)):=
 uT (l9 he) λDe σ H ⟨g,env,os,r,m⟩=>⟨g,env,os,r,m.bind.mono λp _ q v H' dS r' z i=>by
  obtain⟨d,e'⟩:=p;cases d with
  |bl b=>exact(show gD X.K g H os De (.vM (.bl b) e')from q) v σ H' dS r' z i
  |non=>exact q.elim
  |lst _=>exact q.elim
  |int _=>exact q.elim
  |str _=>exact q.elim
  |exc _=>exact q.elim
  |fn _=>exact q.elim
  |tup _=>exact q.elim⟩
def Vl{e:ak}{f:DE->R (D×DE)}(he:PE X e (DX X.K E f)):PS X (.Return (aa e) pos) (tS X.K E λenv=>(f env).bind λp=>(Vk p.1).bind λd=>.ok (.rt d)):=
 uT (l9 he) λDe σ H ⟨g,env,os,r,m⟩=>⟨g,env,os,r,m.bind.mono λp _ q v H' dS r' z i=>by
  obtain⟨d,e'⟩:=p;cases d with
  |bl b=>exact(show gD X.K g H os De (.rt (.bl b))from q) v H' r'.ext i
  |non=>exact q.elim
  |lst _=>exact q.elim
  |int _=>exact q.elim
  |str _=>exact q.elim
  |exc _=>exact q.elim
  |fn _=>exact q.elim
  |tup _=>exact q.elim⟩
def gP(i:Nat)(m:gq->List D->R (D×gq))(env:DE)(ds:List D):R (D×DE):=match y9 i env with
 |some (o,s)=>(m s ds).bind λp=>.ok (p.1,env.set i (.deep (e7 o p.2)))
 |none=>.bad
def zb{K:aj}{g:Gh}{env:DE}{σ:St}{H:Hp}{os:List ae}{i:Nat}{m:gq->List D->R (D×gq)}{ds:List D}{ws:List V}{Q:VK}{Ex:XK}(r:Rel K g env σ H os)(i1:IsL K (g.P os) H ds ws)(hne:∀c ds n,m c ds≠.err n)
  (m1:Good E g.H₀ (gP i m env ds) λp=>∀v H' dS,Rel K g p.2 σ H' dS->lZ H os H' dS->Is K Tr H' p.1 v->Q v H'):∃a,σ[i]?=aa (aa (.ref a))/\Yq K m (.ref a::ws) H Q Ex:=by
 unfold gP at m1;cases e:y9 i env with
 |none=>rw[e]at m1;exact m1.elim
 |some c=>
  obtain⟨o,c⟩:=c;rw[e]at m1;have m2:Good E g.H₀ ((m c ds).bind λp=>.ok (p.1,env.set i (.deep (e7 o p.2)))) _:=m1;obtain⟨a,as,h1,h2,h3,put⟩:=r.ED (qP e);refine⟨a,h1,a,as,c,ds,ws,rfl,BU (h2.to λx hx=>⟨hx,rfl⟩),IsL.ext ⟨λx o p _ z=>p.2 (h3 x z),λ_ _ _ z=>z⟩ _ _ i1,?_⟩;cases em:m c ds with
  |err n=>exact(hne c ds n em).elim
  |bad=>rw[em]at m2;exact m2.elim
  |ok p=>
   obtain⟨d,c'⟩:=p;rw[em]at m2;intro v H' mV st dp hv;obtain⟨dS,r',z⟩:=put st (JR h2 dp);exact m2 v H' dS r' z (Is.sc hv)
end
section
variable{P:aO}{w:aD}{K:aj}{mg:Str->Option ah}{base:au}{f:ae}{fd:aL}{ps:List Str}{k:Nat}
theorem vN.calm {m:gq->List D->R (D×gq)}(F:vN P w K mg base (jz P w) k f fd ps m):vN P w K mg base lL k f fd ps (λc ds=>(m c ds).ne):=fz.calm F λvs H Q E h=>by
 obtain⟨a,as,c,ds,ws,e1,dp,i,h⟩:=h;refine⟨a,as,c,ds,ws,e1,dp,i,?_⟩;cases e:m c ds with
 |ok d=>simp only [e,R.ne]at h;exact h
 |err c=>simp only [e,R.ne]at h
 |bad=>simp only [e,R.ne]at h
end
def Au{α:Type}{r:R α}{n:Str}:r.ne≠.err n:=by cases r<;>intro z<;>cases z
structure Lo(K:aj)(C:ae):Prop where
 cl:IY K C
 ns:cV K bU "Loom"=aa (aa (.ref C))
def Lo.at_ {K:aj}{C:ae}(L:Lo K C){H:Hp}{os:List ae}{a:ae}{as:List ae}{o:Option ae}{s:gq}(d:Dp K H os a as (e7 o s)):∃dx n h b,H a=aa (.ins C dx [("n",.int n),("held",.ref h),("backs",.ref b)]):=by obtain⟨_,_,C',dx,p,b,ws,h0,_,_,_,_,_,h6,_⟩:=d;rw[L.ns]at h0;cases h0;exact⟨dx,_,p,b,h6⟩
section
variable{X:Cx}{E:Str->Hp->Prop}{pos:Pos}{k:Nat}{fa C:ae}{fd:aL}{st:aB}{ps:List Str}{x y mn:Str}{p q apos:Pos}{e:ak}{es:List ak}{fr:DE->R (List D)}{m:gq->List D->R (D×gq)}
def zc(i:Nat)(d:Df X.K X.mg x st ps fa fd)(F:vN X.prog X.w X.K X.mg X.base lL k fa fd ps m)(hne:∀c ds n,m c ds≠.err n)(hr:bB k X.A)(ha:PA X (e::es) (Hv X.K E fr))
  (hN:X.N[i]?=aa y:=by rfl)(hv:D5 X.env.scope y:=by first|exact cD rfl|exact b9 (cD rfl)|exact b9 (b9 rfl))(hd:(y==("__debug__":Str))=false:=by decide)(hcd:(y==("__classdict__":Str))=false:=by decide)
  (hg:Gl X x:=by rfl)(hdb:(x==("__debug__":Str))=false:=by decide)(he:aq (.Name y q::e::es) X.env=(false,aK (.Name y q) X.env)::aq (e::es) X.env:=by rfl)(hpl:(bY pos (aq (e::es) X.env)).any (·.1)=false:=by rfl):
  PE X (.Call (.Name x p) (.Name y q::e::es) [] pos) (DX X.K E λenv=>(R.of (y9 i env)).bind λ_=>(fr env).bind λds=>gP i m env ds):=
 imp (kC F hr hg d.m d.F.kp d.b .nil (show Passes lL X (λ_ _ _=>False)from sW) (aX (nU (pos:=q) hN hv hd hcd) ha) hdb he hpl) λσ H Q ⟨g,env,os,r,m1⟩=>by
  dsimp only at m1;cases es:y9 i env with
  |none=>rw[es]at m1;exact m1.elim
  |some c=>
   rw[es]at m1;have m2:Good E g.H₀ ((fr env).bind λds=>gP i m env ds) _:=m1;obtain⟨a,as,h1,_⟩:=r.ED (qP es);refine⟨.ref a,h1,g,env,os,r,m2.bind.mono λds _ m3 vs H1 s1 i1=>?_⟩;obtain⟨a1,h2,sp⟩:=zb (E:=E) (Q:=Q) (Ex:=λ_ _ _=>False) (r.same s1) i1 hne (Good.mono m3 λp _ q v H' dS r' z iv=>q v H' dS r' ((lZ.same s1 os).trans z) iv);rw[h1]at h2;cases h2;rw[jd];exact sp
def BW(i:Nat){pl:Sem Bool}(L:Lo X.K C)(hm:Meth X.K C mn fa)(hb:Binds X.K fd ps [])(F:vN X.prog X.w X.K X.mg X.base lL k fa fd ps m)(hne:∀c ds n,m c ds≠.err n)(hr:bB k X.A)
  (hl:∀u v w:V,kB mn [(("n":Str),u),("held",v),("backs",w)]=none:=by intros;rfl)
  (hN:X.N[i]?=aa y:=by rfl)(hv:D5 X.env.scope y:=by first|exact cD rfl|exact b9 (cD rfl)|exact b9 (b9 rfl))(hd:(y==("__debug__":Str))=false:=by decide)(hcd:(y==("__classdict__":Str))=false:=by decide)
  (ht:aK (.Call (.Attribute (.Name y q) mn apos) [] [] pos) X.env=(do
   let ov<-aK (.Name y q) X.env
   m9 apos.atName
   let(f,first)<-lH [ov] (pG ov mn pl)
   uK pos f first (bY pos (aq [] X.env)) (nv pos (nz [] X.env))):=by rfl):
  PE X (.Call (.Attribute (.Name y q) mn apos) [] [] pos) (DX X.K E λenv=>gP i m env []):=
 imp (CC (pl:=pl) (nU (pos:=q) hN hv hd hcd) L.cl hm F hr hb .nil (show Passes lL X (λ_ _ _=>False)from sW) ht) λσ H Q ⟨g,env,os,r,m1⟩=>by
  have Vm:=m1;dsimp only at Vm;unfold gP at Vm;cases es:y9 i env with
  |none=>rw[es]at Vm;exact Vm.elim
  |some c=>
   rw[es]at Vm;obtain⟨a,as,h1,h3,_⟩:=r.ED (qP es);obtain⟨dx,n,p1,b,ob⟩:=L.at_ h3
   obtain⟨a1,h2,sp⟩:=zb (E:=E) (Q:=Q) (Ex:=λ_ _ _=>False) (ds:=[]) (ws:=[]) r (show Is.IsL X.K _ H [] []from rfl) hne m1;rw[h1]at h2;cases h2;exact⟨.ref a,h1,a,dx,_,rfl,ob,hl _ _ _,sp⟩
def Vn(i:Nat){pl:Sem Bool}(L:Lo X.K C)(hm:Meth X.K C mn fa)(hb:Binds X.K fd ps [])(F:vN X.prog X.w X.K X.mg X.base lL k fa fd ps m)(hne:∀c ds n,m c ds≠.err n)(hr:bB k X.A)(ha:PA X (e::es) (Hv X.K E fr))
  (hl:∀u v w:V,kB mn [(("n":Str),u),("held",v),("backs",w)]=none:=by intros;rfl)
  (hN:X.N[i]?=aa y:=by rfl)(hv:D5 X.env.scope y:=by first|exact cD rfl|exact b9 (cD rfl)|exact b9 (b9 rfl))(hd:(y==("__debug__":Str))=false:=by decide)(hcd:(y==("__classdict__":Str))=false:=by decide)
  (hst:aq (e::es) X.env=(false,aK e X.env)::aq es X.env:=by rfl)(hpl:(bY pos (aq es X.env)).any (·.1)=false:=by rfl)
  (ht:aK (.Call (.Attribute (.Name y q) mn apos) (e::es) [] pos) X.env=(do
   let ov<-aK (.Name y q) X.env
   m9 apos.atName
   let(f,first)<-lH [ov] (pG ov mn pl)
   uK pos f first (bY pos (aq (e::es) X.env)) (nv pos (nz [] X.env))):=by rfl):
  PE X (.Call (.Attribute (.Name y q) mn apos) (e::es) [] pos) (DX X.K E λenv=>match y9 i env with
   |some _=>(fr env).bind λds=>gP i m env ds
   |none=>.bad):=
 imp (Ml (pl:=pl) (nU (pos:=q) hN hv hd hcd) L.cl hm F hr hb .nil (show Passes lL X (λ_ _ _=>False)from sW) ha hst hpl ht) λσ H Q ⟨g,env,os,r,m1⟩=>by
  dsimp only at m1;split at m1
  ·rename_i os0 es
   have m2:Good E g.H₀ ((fr env).bind λds=>gP i m env ds) _:=m1;obtain⟨a,as,h1,h3,_⟩:=r.ED (qP es);obtain⟨dx,n,p1,b,ob⟩:=L.at_ h3
   refine⟨.ref a,h1,a,dx,_,rfl,ob,hl _ _ _,g,env,os,r,m2.bind.mono λds _ m3 vs H1 s1 i1=>?_⟩;obtain⟨a1,h2,sp⟩:=zb (E:=E) (Q:=Q) (Ex:=λ_ _ _=>False) (r.same s1) i1 hne (Good.mono m3 λp _ q v H' dS r' z iv=>q v H' dS r' ((lZ.same s1 os).trans z) iv);rw[h1]at h2;cases h2;rw[jd];exact sp
  ·exact m1.elim
def Rt{e:ak}{f:DE->R (D×DE)}(h:PE X e (DX X.K E f))(hs:jB e none pos.line X.env=bJ false:=by rfl):PS X (.Expr e pos) (tS X.K E λenv=>(f env).bind λp=>.ok (.nx p.2)):=
 uT (lI h hs) λDe σ H ⟨g,env,os,r,m⟩=>⟨g,env,os,r,m.bind.mono λp _ q v H' dS r' z i=>(show gD X.K g H os De (.nx p.2)from q) σ H' dS r' z⟩
end
def WB(K:aj):Sp:=λvs H Q _=>∃(a:ae)(as:List ae)(s:gq),vs=[.ref a]/\Dp K H (a::as) a as (e7 none s)/\s.2.1.length<=aQ/\∀(l:ae)(H':Hp),bS H H'->H l=none->H' l=aa (.lst (s.2.1.map V.int))->Q (.ref l) H'
def n6(i:Nat)(env:DE):R (List D):=match y9 i env with
 |some (_,s)=>if s.2.1.length<=aQ then .ok (s.2.1.map D.int)else .bad
 |none=>.bad
section
variable{X:Cx}{E:Str->Hp->Prop}{pos:Pos}{k:Nat}{fa C:ae}{fd:aL}{st:aB}{ps:List Str}{x y mn:Str}{p q apos fR:Pos}{e:ak}{es:List ak}{fr:DE->R (List D)}{m:gq->List D->R (D×gq)}
def JS(i:Nat){pl:Sem Bool}(L:Lo X.K C)(hm:Meth X.K C mn fa)(hb:Binds X.K fd ps [])(F:fz X.prog X.w X.K X.mg X.base lL k fa fd ps (WB X.K))(hr:bB k X.A)
  (hl:∀u v w:V,kB mn [(("n":Str),u),("held",v),("backs",w)]=none:=by intros;rfl)
  (hN:X.N[i]?=aa y:=by rfl)(hv:D5 X.env.scope y:=by first|exact cD rfl|exact b9 (cD rfl)|exact b9 (b9 rfl))(hd:(y==("__debug__":Str))=false:=by decide)(hcd:(y==("__classdict__":Str))=false:=by decide)
  (ht:aK (.Call (.Attribute (.Name y q) mn apos) [] [] pos) X.env=(do
   let ov<-aK (.Name y q) X.env
   m9 apos.atName
   let(f,first)<-lH [ov] (pG ov mn pl)
   uK pos f first (bY pos (aq [] X.env)) (nv pos (nz [] X.env))):=by rfl):
  PE X (.Call (.Attribute (.Name y q) mn apos) [] [] pos) (tF X.K E (n6 i)):=
 imp (CC (pl:=pl) (nU (pos:=q) hN hv hd hcd) L.cl hm F hr hb .nil (show Passes lL X (λ_ _ _=>False)from sW) ht) λσ H Q ⟨g,env,os,r,m1⟩=>by
  unfold n6 at m1;split at m1
  ·rename_i o s es
   split at m1
   ·rename_i hns
    obtain⟨a,as,h1,h3,h4,_⟩:=r.ED (qP es);obtain⟨dx,n',p1,b,ob⟩:=L.at_ h3
    refine⟨.ref a,h1,a,dx,_,rfl,ob,hl _ _ _,a,as,s,rfl,BU (h3.to λz hz=>⟨hz,rfl⟩),hns,λl H' s hn hH=>?_⟩;exact m1 l _ H' s hn hH (iS _)
   ·exact m1.elim
  ·exact m1.elim
def wj(i:Nat){pl:Sem Bool}(L:Lo X.K C)(hm:Meth X.K C mn fa)(hb:Binds X.K fd ps [])(F:vN X.prog X.w X.K X.mg X.base (jz X.prog X.w) k fa fd ps m)(hr:bB k X.A)(ha:PA X.Cz (e::es) (Hv X.K EN fr))
  (hl:∀u v w:V,kB mn [(("n":Str),u),("held",v),("backs",w)]=none:=by intros;rfl)
  (hN:X.N[i]?=aa y:=by rfl)(hv:D5 X.env.scope y:=by first|exact cD rfl|exact b9 (cD rfl)|exact b9 (b9 rfl))(hd:(y==("__debug__":Str))=false:=by decide)(hcd:(y==("__classdict__":Str))=false:=by decide)
  (hst:aq (e::es) X.env=(false,aK e X.env)::aq es X.env:=by rfl)(hpl:(bY fR (aq es X.env)).any (·.1)=false:=by rfl)
  (ht:aK (.Call (.Attribute (.Name y q) mn apos) (e::es) [] fR) X.env=(do
   let ov<-aK (.Name y q) X.env
   m9 apos.atName
   let(f,first)<-lH [ov] (pG ov mn pl)
   uK fR f first (bY fR (aq (e::es) X.env)) (nv fR (nz [] X.env))):=by rfl)
  (hs:jB (.Call (.Attribute (.Name y q) mn apos) (e::es) [] fR) none pos.line X.env=bJ false:=by rfl):
  PB X [.Expr (.Call (.Attribute (.Name y q) mn apos) (e::es) [] fR) pos] (λenv=>match y9 i env with
   |some _=>(fr env).ne.bind λds=>(gP i m env ds).bind λp=>.ok (.nx p.2)
   |none=>.bad):=by
 intro pins s σ H De g env os I r nb hok;dsimp only at nb hok⊢;split at nb
 ·rename_i os0 WC
  obtain⟨o,s0⟩:=os0;rw[WC]at hok;dsimp only at hok;cases qf:fr env with
  |err c=>rw[qf]at nb;exact(nb rfl).elim
  |bad=>rw[qf]at nb;exact(nb rfl).elim
  |ok ds=>
   rw[qf]at nb hok;simp only [R.ne,R.cg]at nb hok;simp only [R.ne,R.cg];have ec:gP i m env ds=(m s0 ds).bind λp=>.ok (p.1,env.set i (.deep (e7 o p.2))):=(by unfold gP;rw[WC]);rw[ec]at nb hok⊢;obtain⟨a,as,h1,h3,h4,_⟩:=r.ED (qP WC);obtain⟨dx,n',p1,b,ob⟩:=L.at_ h3
   refine xW (gV (Q:=λfl s1=>fl=.next/\∃H1 Cj p,m s0 ds=.ok p/\Inv X pins σ H1 s1/\Rel X.K g (env.set i (.deep (e7 o p.2))) σ H1 Cj/\lZ H os H1 Cj) ?_ λfl s1 q1=>?_)
   ·refine FE ?_ I.quiet hs
    refine F5 (pl:=pl) (eY (nU (X:=X.Cz) (pos:=q) hN hv hd hcd pins s σ H (λv H1=>v=.ref a/\H1=H) (I.uF _) ⟨_,h1,rfl,rfl⟩) (λu s1 ⟨z,H1,I1,rx,ez,eH⟩=>?_) λ_ _ z=>dD z) ht;have I1:Inv X pins σ H1 s1:=I1.kQ;subst ez eH;obtain rfl:u=aS a:=rx;refine tR I1 ob L.cl hm (hl _ _ _) ?_;refine yd (first:=[.ref a]) (h₀:=X.base) I.ok.mod.OY hm.kp (eY (ha fR pins s1 σ H1 (λvs H2=>bS H1 H2/\IsL X.K (g.P os) H2 ds vs) (I1.uF _) ⟨g,env,os,r,rW qf λvs H2 s2 i2=>⟨s2,i2⟩⟩) (λus s2 ⟨vs,H2,I2,r2,yW,i2⟩=>⟨I2.qy,?_⟩) λ_ _ z=>dD z) hst hpl;have Yu:Inv X pins σ H2 s2:=I2.kQ;have r2':=r.same yW;obtain⟨a2,as2,k1,k3,k4,put⟩:=r2'.ED (qP WC);rw[h1]at k1;cases k1;have base:∀(Q:VK)(E:XK),(match m s0 ds with
     |.ok (d,c')=>∀v H' mV,lZ H2 (a::as2) H' (a::mV)->Dp X.K H' (a::mV) a mV (e7 none c')->toV d=aa v->Q v H'
     |.err n=>∀H',bS H2 H'->E (yB X.K n) none H'
     |.bad=>False)->Yq X.K m (.ref a::vs) H2 Q E:=λQ E hh=>⟨a,as2,_,ds,vs,rfl,BU (k3.to λz hz=>⟨hz,rfl⟩),IsL.ext ⟨λz o pz _ w=>pz.2 (k4 z w),λ_ _ _ z=>z⟩ _ _ i2,hh⟩
    cases em:m s0 ds with
    |bad=>rw[em]at nb;exact(nb rfl).elim
    |ok p=>
     obtain⟨d,c'⟩:=p;refine eY (P9 (us:=.ref a::us) (vs:=.ref a::vs) (Q:=λ_ H3=>∃WD,Rel X.K g (env.set i (.deep (e7 o c'))) σ H3 WD/\lZ H2 os H3 WD) (E:=λ_ _ _=>False) F hr hb Yu (.cons rfl r2) (base _ _ ?_)) (λu s3 ⟨z,H3,I3,_,WD,r3,z3⟩=>⟨rfl,H3,WD,_,rfl,I3,r3,(lZ.same yW os).trans z3⟩) λev s3 hq=>?_
     ·rw[em]
      exact λv H' mV st dp _=>put st (JR k3 dp)
     ·obtain⟨_,_,_,_,_,_,_,_,_,_,_,_,_,_,z⟩:=hq
      exact z.elim
    |err nm=>
     refine eY (P9 (us:=.ref a::us) (vs:=.ref a::vs) (Q:=λ_ _=>False) (E:=λc _ H'=>c=yB X.K nm/\bS H1 H') F hr hb Yu (.cons rfl r2) (base _ _ ?_)) (λu s3 ⟨z,H3,I3,_,f⟩=>f.elim) λev s3 hq=>?_
     ·rw[em];exact λH' s'=>⟨rfl,yW.trans s'⟩
     ·exact⟨nm,H2,s2,by rfl,Yu,hq⟩
   ·obtain⟨rfl,H1,Cj,p,em,I1,r1,z1⟩:=q1
    refine rK ⟨σ,H1,I1,?_⟩;exact(hok (.nx (env.set i (.deep (e7 o p.2)))) (by rw[em];rfl)) σ H1 Cj r1 z1
 ·exact(nb rfl).elim
end
noncomputable def NJ(K:aj)(m:List D->R Int):Sp:=λvs H Q E=>∃(x dx C:ae)(ds:List D)(ws:List V),vs=.ref x::ws/\cV K bU "Loom"=aa (aa (.ref C))/\H x=aa (.ins C dx [])/\IsL K (λy=>y≠x) H ds ws/\match m ds with
 |.ok n=>∀(H':Hp)(h b:ae),h≠b->H h=none->H b=none->(∀y o,y≠x->H y=aa o->H' y=aa o)->H' x=aa (.ins C dx [("n",.int n),("held",.ref h),("backs",.ref b)])->H' h=aa (.lst [])->H' b=aa (.lst [])->Q .non H'
 |.err n=>∀H',bS H H'->E (yB K n) none H'
 |.bad=>False
def km{H:Hp}{x dx C:ae}(hx:H x=none)(hd:H dx=none):bS H (upd (upd H dx (.own x)) x (.ins C dx [])):=λy o hy=>by rw[aM (bE hy hx),aM (bE hy hd)];exact hy
section
variable{P:aO}{w:aD}{K:aj}{mg:Str->Option ah}{base:au}{f:ae}{fd:aL}{ps:List Str}{k:Nat}
def Vo{m:List D->R Int}(F:fz P w K mg base (jz P w) k f fd ps (NJ K m)):fz P w K mg base lL k f fd ps (NJ K λds=>(m ds).ne):=fz.calm F λvs H Q E h=>by
 obtain⟨x,dx,C,ds,ws,e1,e2,e3,e4,h⟩:=h;refine⟨x,dx,C,ds,ws,e1,e2,e3,e4,?_⟩;cases e:m ds with
 |ok d=>simp only [e,R.ne]at h;exact h
 |err c=>simp only [e,R.ne]at h
 |bad=>simp only [e,R.ne]at h
end
section
variable{X:Cx}{E:Str->Hp->Prop}{pos pos':Pos}{k:Nat}{fa C:ae}{fd:aL}{st:aB}{ps:List Str}{x y mn:Str}{p q apos fR:Pos}{e:ak}{es:List ak}{fr:DE->R (List D)}{m:List D->R Int}
def Ax{pins:List (ae×Obj)}{σ:St}{H:Hp}{s:ai}{Q:VK}{Ex:XK}{us:List ah}{vs:List V}{sp:Sp}(M:Mk X.K C fa)(F:fz X.prog X.w X.K X.mg X.base (jz X.prog X.w) k fa fd ps sp)(hr:bB (k+1) X.A)(hb:Binds X.K fd ps [])
  (I:Inv X pins σ H s)(r:Vals vs us)
  (h:∀x dx,H x=none->H dx=none->dx≠x->sp (.ref x::vs) (upd (upd H dx (.own x)) x (.ins C dx [])) (λv H2=>v=.non/\Q (.ref x) H2) Ex):
  aF (aG X.prog X.w) X.A (call (.ref C) us) (EP X pins σ Q) (λev s'=>∃H2 s2,Inv X pins σ H2 s2/\bS H H2/\jz X.prog X.w X.stack H2 s2 Ex ev s') s:=by
 have Tt:=I.hok.fresh (Mm s.heap.objs.size);have hd0:=I.hok.fresh (bZ s.heap.objs.size);have hq:=h (s.heap.objs.size+1) s.heap.objs.size Tt hd0 (fX (A7 _));have I2:=Inv.made (C:=C) I;have r2:Vals (V.ref (s.heap.objs.size+1)::vs) (aS (s.heap.objs.size+1)::us):=.cons rfl r;have hl:(aS (s.heap.objs.size+1)::us++[]).length=ps.length:=by have e:=r2.length;rw[F.len _ _ _ _ hq]at e;rw[jd];exact e.symm
 have hb2:=hb _ (aS (s.heap.objs.size+1)::us) I2.qy hl;rw[jd]at hb2;refine uJ (CB (f:=fa) I.qy M.makes M.init (beq_iff_eq.mp M.fn) (rO (F.run _ X.stack _ _ ⟨aS (s.heap.objs.size+1)::us,[]⟩ (aS (s.heap.objs.size+1)::us) _ _ Ex (hr.make C us [])
  (I2.Mj.make C us []) hb2 r2 hq) λr s' I8=>?_))
 cases r with
 |error e=>exact⟨_,_,I2,km Tt hd0,I8⟩
 |ok fl=>
  cases fl with
  |ret u=>
   obtain⟨v,H',I3,rv,ev,q3⟩:=I2.after I8;subst ev;exact⟨rv,⟨V.ref (s.heap.objs.size+1),H',I3,rfl,q3⟩⟩
  |next=>exact dD I8
  |brk=>exact dD I8
  |cont=>exact dD I8
def JT(L:Lo X.K C)(M:Mk X.K C fa)(F:fz X.prog X.w X.K X.mg X.base (jz X.prog X.w) k fa fd ps (NJ X.K m))(hr:bB (k+1) X.A)(hb:Binds X.K fd ps [])(hmg:X.mg x=aa (.ref C))(ha:PA X.Cz (e::es) (yU X.K EN fr))
  (hg:Gl X x:=by rfl)(hdb:(x==("__debug__":Str))=false:=by decide)(he:aq (e::es) X.env=(false,aK e X.env)::aq es X.env:=by rfl)(hpl:(bY fR (aq es X.env)).any (·.1)=false:=by rfl)
  (hs:jB (.Call (.Name x p) (e::es) [] fR) none pos.line X.env=bJ false:=by rfl):
  PB X [.Expr (.Call (.Name x p) (e::es) [] fR) pos] (λenv=>(fr env).ne.bind λds=>(m ds).bind λ_=>.ok (.nx env)):=by
 intro pins s σ H De g env os I r nb hok;dsimp only at nb hok⊢;cases q:fr env with
 |err c=>rw[q]at nb;exact(nb rfl).elim
 |bad=>rw[q]at nb;exact(nb rfl).elim
 |ok ds=>
  rw[q]at nb hok;simp only [R.ne,R.cg]at nb hok⊢;refine xW (gV (Q:=λfl s1=>fl=.next/\∃H1 v,m ds=.ok v/\Inv X pins σ H1 s1/\bS H H1) ?_ λfl s1 q1=>?_)
  ·refine FE ?_ I.quiet hs
   refine yc (rH I hg hmg ?_ hdb);refine yd (h₀:=X.base) I.ok.mod.OY M.kp ?_ he hpl;refine eY (ha fR pins s σ H (λvs H1=>bS H H1/\IsL X.K (λ_=>True) H1 ds vs) (I.uF _) ⟨g,env,os,r,rW q λvs H1 s1 i1=>⟨s1,i1⟩⟩) (λus s1 ⟨vs,H1,I1,r1,Tz,i1⟩=>⟨I1.qy,?_⟩) λ_ _ z=>dD z;have Wz:Inv X pins σ H1 s1:=I1.kQ;have base:∀(Q:VK)(Ex:XK)(x dx:ae),H1 x=none->H1 dx=none->(match m ds with
    |.ok n=>∀(H':Hp)(h b:ae),h≠b->(upd (upd H1 dx (.own x)) x (.ins C dx [])) h=none->(upd (upd H1 dx (.own x)) x (.ins C dx [])) b=none->(∀y o,y≠x->(upd (upd H1 dx (.own x)) x (.ins C dx [])) y=aa o->H' y=aa o)->H' x=aa (.ins C dx [("n",.int n),("held",.ref h),("backs",.ref b)])->H' h=aa (.lst [])->H' b=aa (.lst [])->Q .non H'
    |.err n=>∀H',bS (upd (upd H1 dx (.own x)) x (.ins C dx [])) H'->Ex (yB X.K n) none H'
    |.bad=>False)->NJ X.K m (.ref x::vs) (upd (upd H1 dx (.own x)) x (.ins C dx [])) Q Ex:=λQ Ex x dx hx hd hh=>by refine⟨x,dx,C,ds,vs,rfl,L.ns,aV,?_,hh⟩;refine IsL.ext ⟨λy o _ hy z=>?_,λy o _ hy=>km hx hd y o hy⟩ _ _ i1;rw[z,hx]at hy;cases hy
   cases em:m ds with
   |bad=>rw[em]at nb;exact(nb rfl).elim
   |ok v=>
    refine eY (Ax (Q:=λ_ H2=>bS H1 H2) (Ex:=λ_ _ _=>False) M F hr hb Wz r1 λx dx hx hd hne=>base _ _ x dx hx hd ?_) (λu s2 ⟨z,H2,I2,_,yW⟩=>⟨rfl,H2,v,rfl,I2,Tz.trans yW⟩) λev s2 ⟨H2,s3,_,_,hq⟩=>?_
    ·rw[em]
     intro H' h b _ _ _ hk _ _ _;refine⟨rfl,λy o hy=>hk y o (λz=>?_) (km hx hd y o hy)⟩;rw[z,hx]at hy;cases hy
    ·obtain⟨_,_,_,_,_,_,_,_,_,_,_,_,_,_,z⟩:=hq
     exact z.elim
   |err n=>
    refine eY (Ax (Q:=λ_ _=>False) (Ex:=λc _ H'=>c=yB X.K n/\bS H H') M F hr hb Wz r1 λx dx hx hd hne=>base _ _ x dx hx hd ?_) (λu s2 ⟨z,H2,I2,_,f⟩=>f.elim) λev s2 ⟨H2,s3,I3,_,hq⟩=>?_
    ·rw[em];exact λH' s'=>⟨rfl,Tz.trans ((km hx hd).trans s')⟩
    ·exact⟨n,H2,s3,rfl,I3,hq⟩
  ·obtain⟨rfl,H1,v,em,I1,s1⟩:=q1
   refine rK ⟨σ,H1,I1,?_⟩;exact(hok (.nx env) (by rw[em];rfl)) σ H1 os (r.same s1) (.same s1 os)
def Vp(i:Nat)(L:Lo X.K C)(M:Mk X.K C fa)(F:fz X.prog X.w X.K X.mg X.base lL k fa fd ps (NJ X.K m))(hme:∀ds n,m ds≠.err n)(hr:bB (k+1) X.A)(hb:Binds X.K fd ps [])(hmg:X.mg x=aa (.ref C))(ha:PA X (e::es) (yU X.K E fr))(hN:X.N.Nodup)
  (hi:X.N[i]?=aa y:=by rfl)(hy:Loc X.env.scope y:=by first|exact cD rfl|exact b9 rfl)(hg:Gl X x:=by rfl)(hdb:(x==("__debug__":Str))=false:=by decide)(he:aq (e::es) X.env=(false,aK e X.env)::aq es X.env:=by rfl)(hpl:(bY fR (aq es X.env)).any (·.1)=false:=by rfl)
  (hs:jB (.Call (.Name x p) (e::es) [] fR) (aa (.Name y pos')) pos.line X.env=bJ false:=by rfl)(hf:X.fn y=true\/X.env.scope.names.lookup y=aa .local:=by first|exact .inl rfl|exact .inr rfl|assumption):
  PS X (.Assign [.Name y pos'] (.Call (.Name x p) (e::es) [] fR) pos) (tS X.K E λenv=>(fr env).bind λds=>(m ds).bind λn=>.ok (.nx (env.set i (.deep (.lm none n [] []))))):=by
 refine uT (qI (i:=i) hN hi hy (Mp M F hr hg hmg hb .nil (show Passes lL X (λ_ _ _=>False)from sW) ha hdb he hpl) hs hf) λDe σ H ⟨g,env,os,r,m1⟩=>?_;refine⟨g,env,os,r,m1.bind.mono λds _ m2 vs H1 s1 i1 x dx hx hd hne=>?_⟩;rw[jd];refine⟨x,dx,C,ds,vs,rfl,L.ns,aV,?_,?_⟩
 ·refine IsL.ext ⟨λy o _ hy z=>?_,λy o _ hy=>km hx hd y o hy⟩ _ _ i1
  rw[z,hx]at hy;cases hy
 ·cases em:m ds with
  |bad=>rw[em]at m2;exact m2.elim
  |err n=>exact(hme ds n em).elim
  |ok n=>
   rw[em]at m2;intro H' h b hhb hh Wr hk ho hh' hb2;refine⟨rfl,?_⟩;have sm:bS H1 H':=λy o hy=>hk y o (λz=>by rw[z,hx]at hy;cases hy) (km hx hd y o hy);have fr:∀z,(upd (upd H1 dx (.own x)) x (.ins C dx [])) z=none->H1 z=none/\z≠x:=λz hz=>by
    refine⟨?_,λe=>by rw[e,aV]at hz;cases hz⟩;cases q:H1 z with
    |none=>rfl
    |some o=>rw[km hx hd z o q]at hz;cases hz
   have f1:=fr h hh;have f2:=fr b Wr;have r1:=(r.same s1)
   refine(show gD X.K g H os De (.nx (env.set i (.deep (.lm none n [] []))))from m2) _ H' _ (r1.setC sm i (a:=x) (as:=[h,b]) ?_ ?_) ⟨λz hz=>?_,λz hz=>(s1.trans sm).free hz,λz o _ hz=>sm z o (s1 z o hz)⟩
   ·intro z hz
    simp only [bR,jM,or_false]at hz;rcases hz with rfl|rfl|rfl
    ·exact hx
    ·exact f1.1
    ·exact f2.1
   ·refine⟨λ_ z=>(nomatch z),λz hz=>xV _ hz,C,dx,h,b,[],L.ns,by simp,by simp,hhb,?_,?_,ho,hh',hb2,rfl⟩
    ·simp only [bR,jM,or_false]
     exact λz=>z.elim (λe=>f1.2 e.symm) λe=>f2.2 e.symm
    ·intro z hz
     simp only [bR,jM,or_false]at hz;rcases hz with rfl|rfl
     ·exact⟨_,hh'⟩
     ·exact⟨_,hb2⟩
   ·rcases eU.mp hz with z1|z1
    ·right
     simp only [bR,jM,or_false]at z1;rcases z1 with rfl|rfl|rfl
     ·exact s1.free hx
     ·exact s1.free f1.1
     ·exact s1.free f2.1
    ·exact .inl z1
end
noncomputable def zd(env:DE):R Out:=
 ((((((((aU 0 env>=>λmY=>R.ok (D.int 1000003)>=>λmZ=>R.of (kR mY mZ))>=>λkY=>R.ok (D.int 7)>=>λjN=>R.of (Eo kY jN))>=>λv10=>(aU 1 env>=>λmq=>aU 1 env>=>λiX=>R.of (Eo mq iX))>=>λv11=>R.of (dH v10 v11))>=>λv8=>R.ok (D.int 1)>=>λv9=>R.of (dH v8 v9))>=>λv6=>aU 2 env>=>λv7=>R.of (Eo v6 v7))>=>λv4=>R.ok (D.int 2147483647)>=>λv5=>R.of (kR v4 v5))>=>λv2=>R.ok (D.int 16)>=>λv3=>R.of (nW v2 v3))>=>λv1=>R.ok (Out.rt v1))
def jl:=mS 3 3 zd
noncomputable def qQ(env:DE):R Out:=
 (bF (((aU 1 env>=>λv4=>R.ok (D.int 1)>=>λv5=>R.of (j9 v4 v5)>=>cK)>=>λv3=>if v3=true then((aU 0 env>=>λv8=>R.ok (D.int 13)>=>λv9=>R.of (kR v8 v9))>=>λv6=>R.ok (D.int 5)>=>λv7=>R.of (j9 v6 v7)>=>cK)else R.ok false)>=>λv2=>if v2=true then(R.ok (D.int 1)>=>λv10=>R.ok (Out.rt v10))else(R.ok (Out.nx env))) λv1=>
 (bF (((R.ok (D.int 2)>=>λmY=>(aU 1 v1>=>λmq=>R.ok []>=>λiX=>R.ok (mq::iX))>=>λmZ=>R.ok (mY::mZ))>=>λjN=>R.of (Gi jN))>=>λkY=>R.ok (Out.nx (List.set v1 1 (Sl.val kY)))) λv11=>
 ((aU 1 v11>=>λoK=>((aU 0 v11>=>λoE=>R.ok (D.int 13)>=>λpT=>R.of (nW oE pT))>=>λpU=>((aU 2 v11>=>λoM=>aU 1 v11>=>λlR=>R.of (qN oM lR))>=>λm5=>R.ok (D.int 1)>=>λpV=>R.of (dH m5 pV))>=>λj7=>R.of (kR pU j7))>=>λv20=>R.of (dH oK v20))>=>λmW=>R.ok (Out.rt mW))))
def g7:=mS 3 3 qQ
noncomputable def qo(env:DE):R Out:=
 (bF ((R.ok (D.int 1)>=>λv3=>(aU 0 env>=>λv5=>(aU 1 env>=>λv7=>R.ok (D.int 1)>=>λv8=>R.of (qN v7 v8))>=>λv6=>R.of (kR v5 v6))>=>λv4=>R.of (dH v3 v4))>=>λv2=>R.ok (Out.nx (List.set env 2 (Sl.val v2)))) λv1=>
 (bF ((((aU 0 v1>=>λmZ=>R.ok (D.int 8)>=>λmq=>R.of (nW mZ mq))>=>λjN=>R.ok (D.int 2)>=>λmY=>R.of (kR jN mY))>=>λv11=>R.ok (D.int 1)>=>λkY=>R.of (j9 v11 kY)>=>cK)>=>λv10=>if v10=true then((aU 2 v1>=>λmW=>R.of (lN mW))>=>λiX=>R.ok (Out.rt iX))else(R.ok (Out.nx v1))) λv9=>
 (fS 2 v9>=>λoK=>R.ok (Out.rt oK))))
def gQ:=mS 2 3 qo
noncomputable def vg(env:DE):R Out:=
 (bF (((aU 0 env>=>λv3=>(aU 1 env>=>λv5=>R.ok []>=>λv6=>R.ok (v5::v6))>=>λv4=>R.ok (v3::v4))>=>gQ)>=>λv2=>R.ok (Out.nx (List.set env 2 (Sl.val v2)))) λv1=>
 (bF (((((aU 0 v1>=>λmY=>R.ok (D.int 16)>=>λmZ=>R.of (nW mY mZ))>=>λkY=>R.ok (D.int 4)>=>λjN=>R.of (kR kY jN))>=>λv10=>R.ok (D.int 0)>=>λv11=>R.of (Lu v10 v11)>=>cK)>=>λv9=>if v9=true then R.ok true else(aU 1 v1>=>λmq=>R.ok (D.int 3)>=>λiX=>R.of (Ep mq iX)>=>cK))>=>λv8=>if v8=true then((((fS 2 v1>=>λv20=>R.ok []>=>λpU=>R.ok (v20::pU))>=>fit)>=>λoK=>R.ok (D.lst oK))>=>λmW=>R.ok (Out.rt mW))else(R.ok (Out.nx v1))) λv7=>
 (bF (((((((aU 2 v7>=>λuc=>R.ok (D.int 1)>=>λkc=>R.of (dH uc kc))>=>λmX=>R.ok []>=>λv30=>R.ok (mX::v30))>=>λlR=>R.of (tW lR))>=>λpV=>aU 1 v7>=>λoM=>R.of (Ep pV oM)>=>cK)>=>λm5=>if m5=true then((aU 2 v7>=>λsX=>R.ok (D.int 1)>=>λsY=>R.of (dH sX sY))>=>λqR=>R.ok (D.int 0)>=>λud=>R.of (y6 qR ud)>=>cK)else R.ok false)>=>λpT=>if pT=true then(aU 2 v7>=>λue=>R.ok (D.int 1)>=>λuf=>R.of (dH ue uf))else(aU 2 v7>=>λsZ=>R.ok (D.int 1)>=>λsM=>R.of (qN sZ sM)))>=>λoE=>R.ok (Out.nx (List.set v7 3 (Sl.val oE)))) λj7=>
 (((((((fS 2 j7>=>λxH=>(fS 3 j7>=>λxJ=>(fS 2 j7>=>λwk=>R.ok []>=>λHN=>R.ok (wk::HN))>=>λzN=>R.ok (xJ::zN))>=>λqT=>R.ok (xH::qT))>=>fit)>=>λvh=>R.ok (D.lst vh))>=>λvO=>((((fS 2 j7>=>λvP=>(fS 3 j7>=>λBX=>R.ok []>=>λBZ=>R.ok (BX::BZ))>=>λB0=>R.ok (vP::B0))>=>fit)>=>λB1=>R.ok (D.lst B1))>=>λGQ=>((((fS 2 j7>=>λCm=>(fS 2 j7>=>λDZ=>R.ok []>=>λEF=>R.ok (DZ::EF))>=>λEG=>R.ok (Cm::EG))>=>fit)>=>λC6=>R.ok (D.lst C6))>=>λC7=>((((fS 2 j7>=>λHP=>((aU 3 j7>=>λJU=>R.of (lN JU))>=>λIA=>(fS 2 j7>=>λJV=>R.ok []>=>λJW=>R.ok (JV::JW))>=>λD0=>R.ok (IA::D0))>=>λD1=>R.ok (HP::D1))>=>fit)>=>λEH=>R.ok (D.lst EH))>=>λEI=>R.ok []>=>λD2=>R.ok (EI::D2))>=>λC8=>R.ok (C7::C8))>=>λwm=>R.ok (GQ::wm))>=>λwo=>R.ok (vO::wo))>=>fit)>=>λvj=>((aU 0 j7>=>λJX=>R.ok (D.int 64)>=>λJY=>R.of (nW JX JY))>=>λJZ=>R.ok (D.int 4)>=>λGR=>R.of (kR JZ GR))>=>λsN=>nX vj sN)>=>λvQ=>R.ok (Out.rt vQ)))))
def jO:=mD 2 4 vg
noncomputable def kZ(d:D)(env:DE):R Out:=
 (bT 2 (xn (bN 4) (xn (bN 5) Jz))) d env>=>λv8=>
  ((aU 1 v8>=>λv10=>R.ok (D.int 1)>=>λv11=>R.of (Lu v10 v11)>=>cK)>=>λv9=>if v9=true then(((iR 3 v8>=>λmY=>(((((aU 5 v8>=>λmW=>(aU 4 v8>=>λv20=>(R.ok (D.int 48271)>=>λj7=>R.ok []>=>λoE=>R.ok (j7::oE))>=>λpU=>R.ok (v20::pU))>=>λoK=>R.ok (mW::oK))>=>jl)>=>λmq=>(fS 1 v8>=>λpT=>R.ok []>=>λm5=>R.ok (pT::m5))>=>λiX=>R.ok (mq::iX))>=>jO)>=>Jf)>=>λmZ=>fit (mY++mZ))>=>λjN=>R.ok (D.lst jN))>=>λkY=>R.ok (Out.nx (List.set v8 3 (Sl.val kY))))else(R.ok (Out.nx v8)))
noncomputable def vk(env:DE):R Out:=
 (bF (((R.ok []>=>fit)>=>λv3=>R.ok (D.lst v3))>=>λv2=>R.ok (Out.nx (List.set env 3 (Sl.val v2)))) λv1=>
 (bF ((fS 0 v1>=>λpV=>Jf pV>=>λxs=>R.ok (jo xs))>=>λv5=>iB kZ v5 v1) λv4=>
 ((iR 3 v4>=>λlR=>R.ok none>=>λmX=>(aU 2 v4>=>vX)>=>λv30=>R.ok (cut lR mX v30))>=>λoM=>R.ok (Out.xm oM))))
def jP:=aY 3 6 vk
def C9(c k f:Int):Int:=(c%1000003*7+k*k+1)*f%2147483647/16
def J0(c k f:Int)(hk:0<=k/\k<1000000)(hf:0<=f/\f<2147483647):jl [.int c,.int k,.int f]=.ok (.int (C9 c k f)):=by have h1:=vm c (show(1000003:Int)≠0 by decide);have h2:=GU c (show(0:Int)<1000003 by decide);unfold jl zd;simp_all;rw[jk c 1000003 (by decide)];simp_all only [R.jJ,R.cg];rw[BD _ 7 (.inr (by decide))];simp_all only [R.jJ,R.cg];rw[BD k k (.inl (by omega))];simp_all only [R.jJ,R.cg,BC];rw[BD _ f (.inr (by omega))];simp_all only [R.jJ,R.cg];rw[jk _ 2147483647 (by decide)];simp_all only [R.jJ,R.cg];rw[nY _ 16 (by decide)];rfl
def EJ(c k f:Int):0<=C9 c k f:=by unfold C9;have h1:=vm ((c%1000003*7+k*k+1)*f) (show(2147483647:Int)≠0 by decide);exact Ny h1 (by decide)
def oN(s:Int):Int:=if s%13=5 then 1 else 2+s/13%6
def EK(s:Int):g7 [.int s,.int 1,.int 7]=.ok (.int (oN s)):=by
 unfold g7 qQ oN;simp_all;rw[jk s 13 (by decide)];simp_all [beq_self_eq_true]
 by_cases h:s%13=5
 ·simp_all [h,beq_self_eq_true]
 ·have h':(s%13==5)=false:=beq_false_of_ne h
  simp_all [h',h];rw[nY s 13 (by decide)];simp_all;rw[jk _ _ (by decide)];rfl
def Dc(s:Int):1<=oN s/\oN s<=7:=by unfold oN;split<;>omega
def jm(x n:Int):Int:=if x/8%2=1 then-(1+x%(n-1))else 1+x%(n-1)
def J1(x n:Int)(h:2<=n):gQ [.int x,.int n]=.ok (.int (jm x n)):=by
 unfold gQ qo jm;simp_all;rw[jk x (n-1) (by omega)];simp_all;rw[nY x 8 (by decide)];simp_all;rw[jk _ 2 (by decide)];simp_all
 by_cases hc:x/8%2=1
 ·simp_all [hc,beq_self_eq_true]
 ·have LH:(x/8%2==1)=false:=beq_false_of_ne hc
  simp_all [hc,LH]
def wq(n k:Int):Prop:=k≠0/\ -n<k/\k<n
def EL(k n:Int):Int:=if(if k+1<0 then-(k+1)else k+1)<n/\k+1≠0 then k+1 else k-1
def wt(x n:Int):List Int:=
 if x/16%4>0\/n<3 then[jm x n]else
  let k:=jm x n;let o:=EL k n
  if x/64%4=0 then[k,o,k]else if x/64%4=1 then[k,o]else if x/64%4=2 then[k,k]else[k,-o,k]
def Ay(x n:Int):(wt x n).length<=3:=by
 unfold wt;split
 ·simp
 ·dsimp only
  split
  ·simp
  ·split
   ·simp
   ·split<;>simp
def J2(x n:Int)(h:2<=n):jO [.int x,.int n]=.ok (.lst (cH (wt x n))):=by
 unfold jO vg wt;simp_all;rw[J1 x n h];simp_all;rw[nY x 16 (by decide)];simp_all;rw[jk _ 4 (by decide)];simp_all
 by_cases h1:0<x/16%4
 ·have xp:x/16%4>0\/n<3:=.inl h1
  rw[if_pos xp];simp_all [h1,decide_true];rfl
 ·by_cases h2:n<3
  ·have xp:x/16%4>0\/n<3:=.inr h2
   rw[if_pos xp];simp_all [h1,h2,decide_true,decide_false];rfl
  ·have xp:¬(x/16%4>0\/n<3):=by omega
   rw[if_neg xp];simp_all [h1,h2,decide_false];have ho:((if decide ((if jm x n+1<0 then-(jm x n+1)else jm x n+1)<n)=true then R.ok (!(jm x n+1==0))else R.ok false)>=>λt=>if t=true then R.ok (D.int (jm x n+1))else R.ok (D.int (jm x n-1)))=R.ok (D.int (EL (jm x n) n)):=by
    unfold EL
    by_cases c1:(if jm x n+1<0 then-(jm x n+1)else jm x n+1)<n
    ·by_cases c2:jm x n+1=0
     ·simp[c1,c2,R.cg]
     ·simp[c1,c2,R.cg]
    ·simp[c1,R.cg]
   rw[ho];simp_all;rw[nY x 64 (by decide)];simp_all;rw[jk _ 4 (by decide)];simp_all;have h5:=vm (x/64) (show(4:Int)≠0 by decide);have h6:=GU (x/64) (show(0:Int)<4 by decide);have h7:x/64%4=0\/x/64%4=1\/x/64%4=2\/x/64%4=3:=(by omega);rcases h7 with q|q|q|q<;>simp[q,L2.nA,L2.Hq,R.jJ,R.cg,R.Ji,aw,cH]
def HQ(n:Int)(cells:List Int)(i:Nat):List Int:=((eR i).map λk=>match cells[k]? with
 |some c=>wt (C9 c k 48271) n
 |none=>[]).flatten
def J3{n:Int}{cells:List Int}{i:Nat}{c:Int}(h:cells[i]?=aa c):HQ n cells (i+1)=HQ n cells i++wt (C9 c i 48271) n:=by unfold HQ;rw[NK,u9,NN];simp[h]
theorem GV(n:Int)(cells:List Int):∀i:Nat,(HQ n cells i).length<=3*i
 |0=>by simp[HQ]
 |i+1=>by
  unfold HQ;rw[NK,u9,NN,bz];have ih:=GV n cells i;unfold HQ at ih;cases h:cells[i]? with
  |none=>simp_all only [h,nk,yo,NP,NQ,bz,yz];omega
  |some c=>
   have:=Ay (C9 c i 48271) n;simp_all only [h,nk,yo,NP,NQ,bz,yz];omega
def ze(cells:List Int)(n most:Int):List Int:=(if 1<n then HQ n cells cells.length else[]).take most.toNat
def EO(cells:List Int)(n most:Int):(ze cells n most).length<=most.toNat:=by unfold ze;rw[cC];omega
def Ka(cells:List Int)(n most:Int)(hc:cells.length<=1000)(hn:1<=n)(hm:0<=most):jP [.lst (cH cells),.int n,.int most]=.ok (cH (ze cells n most)):=by
 unfold jP vk;simp_all;obtain⟨s',e,hj⟩:=Ew (S:=List Int×Sl×Sl) (b:=kZ)
  (λi s=>s.1=if 1<n then HQ n cells i else[]) (λs=>[.val (.lst (cH cells)),.val (.int n),.val (.int most),.val (.lst (cH s.1)),s.2.1,s.2.2]) (jo (cH cells)) 0 ([],.no,.no) (by simp[HQ]) (by
   rintro j ⟨wd,s4,s5⟩ x hs hx;obtain⟨c,WE,rfl⟩:=Av hx;have hj:j<cells.length:=(dX.mp WE).1;rw[Gr]at hs⊢;have WG:wd=if 1<n then HQ n cells j else[]:=hs;unfold kZ;simp_all [ZR]
   by_cases h1:1<n
   ·rw[if_pos h1]at WG
    subst WG;have hl:=GV n cells j;have hl2:=Ay (C9 c j 48271) n;refine⟨(HQ n cells (j+1),.val (.int (j:Nat)),.val (.int c)),?_,by simp[h1]⟩;simp_all [h1,decide_true];rw[J0 c j 48271 (by omega) (by decide)];simp_all;rw[J2 _ n (by omega)];simp_all [fP];rw[fH (by rw[bz];omega)];simp_all [J3 WE]
   ·rw[if_neg h1]at WG
    subst WG;exact⟨([],.val (.int (j:Nat)),.val (.int c)),by simp_all [h1,decide_false],by simp[h1]⟩)
 obtain⟨wd,s4,s5⟩:=s';have hj':wd=if 1<n then HQ n cells (0+(jo (cH cells)).length)else[]:=hj;have he:(jo (cH cells)).length=cells.length:=by rw[HC,cz]
 rw[Gr,he]at hj';rw[show cH []=[]from rfl]at e;rw[e];simp_all [gz];rw[kX _ _ hm,u7];simp_all [hj'];rfl
theorem Ru{xs:List D}:j8 (sJ (.lst xs)) "list"=true:=rfl
def Vq{K:aj}{H:Hp}{a:ae}{m:List D->R D}{ns:List Int}(h:m [.lst (cH ns)]=.ok (.bl true))(hS:lB K H a (ns.map V.int)):Gj K Jo m [.ref a] H (λv _=>v=.bl true) λ_ _ _=>False:=by
 refine⟨Tr,[.lst (cH ns)],IsL.one ⟨a,_,rfl,Bs.any hS,?_⟩,?_⟩
 ·clear h hS
  induction ns with
  |nil=>rfl
  |cons x r ih=>exact⟨_,_,rfl,rfl,ih⟩
 ·rw[h]
  intro v H' _ i;exact i
noncomputable def n8(env:DE):R Out:=
 (((aU 1 env>=>λv3=>R.ok (D.int 0)>=>λv4=>R.of (y6 v3 v4))>=>λv2=>cK v2>=>λt=>if t=true then(((aU 1 env>=>λv8=>R.ok []>=>λv9=>R.ok (v8::v9))>=>λv7=>R.of (tW v7))>=>λv5=>aU 0 env>=>λv6=>R.of (Ep v5 v6))else R.ok (D.bl false))>=>λv1=>R.ok (Out.rt v1))
def eI:=mS 2 2 n8
noncomputable def vo(env:DE):R Out:=
 (((aU 1 env>=>λv3=>R.ok (D.int 0)>=>λv4=>R.of (Tn v3 v4))>=>λv2=>cK v2>=>λt=>if t=true then((aU 1 env>=>λv7=>aU 2 env>=>λv8=>R.of (dH v7 v8))>=>λv5=>((aU 0 env>=>λv10=>R.ok []>=>λv11=>R.ok (v10::v11))>=>λv9=>R.of (iI v9))>=>λv6=>R.of (Tj v5 v6))else R.ok (D.bl false))>=>λv1=>R.ok (Out.rt v1))
def dN:=mS 3 3 vo
noncomputable def qU(env:DE):R Out:=
 (bF ((aU 1 env>=>λv3=>((aU 0 env>=>λv6=>R.ok []>=>λv7=>R.ok (v6::v7))>=>λv5=>R.of (iI v5))>=>λv4=>R.of (Ep v3 v4)>=>cK)>=>λv2=>if v2=true then((iR 0 env>=>λv9=>aU 1 env>=>λv10=>nX v9 v10)>=>λv8=>R.ok (Out.rt v8))else(R.ok (Out.nx env))) λv1=>
 (R.ok (D.int 0)>=>λv11=>R.ok (Out.rt v11)))
def eO:=mS 2 2 qU
noncomputable def xq(env:DE):R Out:=
 (bF ((fS 1 env>=>λv3=>R.ok (D.int 1)>=>λv4=>mi v3 v4)>=>λv2=>R.ok (Out.nx (List.set env 2 (Sl.val v2)))) λv1=>
 (bF (((fS 1 v1>=>λv9=>R.ok (D.int 0)>=>λv10=>mi v9 v10)>=>λv7=>R.ok (D.str "out")>=>λv8=>R.of (j9 v7 v8)>=>cK)>=>λv6=>if v6=true then(((iR 0 v1>=>λmY=>R.ok none>=>λmZ=>(aU 2 v1>=>vX)>=>λmq=>R.ok (cut mY mZ mq))>=>λkY=>(iR 0 v1>=>λiX=>((aU 2 v1>=>λv20=>R.ok (D.int 2)>=>λpU=>R.of (dH v20 pU))>=>vX)>=>λmW=>R.ok none>=>λoK=>R.ok (cut iX mW oK))>=>λjN=>fit (kY++jN))>=>λv11=>R.ok (Out.xm v11))else(R.ok (Out.nx v1))) λv5=>
 (bF (((fS 1 v5>=>λpV=>R.ok (D.int 0)>=>λoM=>mi pV oM)>=>λpT=>R.ok (D.str "in")>=>λm5=>R.of (j9 pT m5)>=>cK)>=>λoE=>if oE=true then((((iR 0 v5>=>λqR=>R.ok none>=>λud=>(aU 2 v5>=>vX)>=>λsX=>R.ok (cut qR ud sX))>=>λuc=>(((fS 1 v5>=>λuf=>R.ok (D.int 2)>=>λsZ=>mi uf sZ)>=>λsY=>(((fS 1 v5>=>λsN=>R.ok (D.int 2)>=>λvO=>mi sN vO)>=>λvj=>R.of (lN vj))>=>λsM=>R.ok []>=>λvQ=>R.ok (sM::vQ))>=>λue=>R.ok (sY::ue))>=>fit)>=>λkc=>fit (uc++kc))>=>λmX=>(iR 0 v5>=>λwo=>(aU 2 v5>=>vX)>=>λvh=>R.ok none>=>λxH=>R.ok (cut wo vh xH))>=>λv30=>fit (mX++v30))>=>λlR=>R.ok (Out.xm lR))else(R.ok (Out.nx v5))) λj7=>
 (bF (((fS 1 j7>=>λHN=>R.ok (D.int 0)>=>λGQ=>mi HN GQ)>=>λzN=>R.ok (D.str "far")>=>λwk=>R.of (j9 zN wk)>=>cK)>=>λxJ=>if xJ=true then((((iR 0 j7>=>λBZ=>R.ok none>=>λC7=>(aU 2 j7>=>vX)>=>λC8=>R.ok (cut BZ C7 C8))>=>λB0=>(((iR 0 j7>=>λEG=>(aU 2 j7>=>λEF=>R.ok (D.int 1)>=>λEI=>R.of (dH EF EI))>=>λDZ=>nX EG DZ)>=>λC6=>((iR 0 j7>=>λHP=>aU 2 j7>=>λD1=>nX HP D1)>=>λD2=>R.ok []>=>λEH=>R.ok (D2::EH))>=>λCm=>R.ok (C6::Cm))>=>fit)>=>λBX=>fit (B0++BX))>=>λB1=>(iR 0 j7>=>λIA=>((aU 2 j7>=>λJV=>R.ok (D.int 2)>=>λJW=>R.of (dH JV JW))>=>vX)>=>λD0=>R.ok none>=>λJU=>R.ok (cut IA D0 JU))>=>λvP=>fit (B1++vP))>=>λwm=>R.ok (Out.xm wm))else(R.ok (Out.nx j7))) λqT=>
 ((((iR 0 qT>=>λNR=>R.ok none>=>λNS=>(aU 2 qT>=>vX)>=>λNT=>R.ok (cut NR NS NT))>=>λJY=>(((iR 0 qT>=>λNU=>(aU 2 qT>=>λNV=>R.ok (D.int 1)>=>λNW=>R.of (dH NV NW))>=>λNX=>nX NU NX)>=>λIB=>((iR 0 qT>=>λNY=>aU 2 qT>=>λLx=>nX NY Lx)>=>λNZ=>((iR 0 qT>=>λN2=>(aU 2 qT>=>λKb=>R.ok (D.int 1)>=>λB2=>R.of (dH Kb B2))>=>λN3=>nX N2 N3)>=>λN4=>R.ok []>=>λN5=>R.ok (N4::N5))>=>λN6=>R.ok (NZ::N6))>=>λN7=>R.ok (IB::N7))>=>fit)>=>λN8=>fit (JY++N8))>=>λGR=>(iR 0 qT>=>λsO=>((aU 2 qT>=>λzf=>R.ok (D.int 3)>=>λxK=>R.of (dH zf xK))>=>vX)>=>λwu=>R.ok none>=>λz0=>R.ok (cut sO wu z0))>=>λJX=>fit (GR++JX))>=>λJZ=>R.ok (Out.xm JZ))))))
def kM:=aY 2 3 xq
noncomputable def n9(d:D)(env:DE):R Out:=
 (bN 3) d env>=>λpU=>
  (((((aU 3 pU>=>λm5=>qO "int" m5)>=>cK)>=>λpT=>R.ok (!pT))>=>λoE=>if oE=true then R.ok true else((aU 3 pU>=>λpV=>qO "bool" pV)>=>cK))>=>λj7=>if j7=true then(R.ok (D.bl false)>=>λoM=>R.ok (Out.rt oM))else(R.ok (Out.nx pU)))
noncomputable def zg(env:DE):R Out:=
 (bF (((((aU 2 env>=>λv5=>qO "tuple" v5)>=>cK)>=>λv4=>R.ok (!v4))>=>λv3=>if v3=true then R.ok true else((((aU 2 env>=>λv10=>R.ok []>=>λv11=>R.ok (v10::v11))>=>λv9=>R.of (iI v9))>=>λv7=>R.ok (D.int 2)>=>λv8=>R.of (Ep v7 v8)>=>cK)>=>λv6=>if v6=true then R.ok true else((((fS 2 env>=>λmY=>R.ok (D.int 0)>=>λmZ=>mi mY mZ)>=>λjN=>qO "str" jN)>=>cK)>=>λkY=>R.ok (!kY))))>=>λv2=>if v2=true then(R.ok (D.bl false)>=>λmq=>R.ok (Out.rt mq))else(R.ok (Out.nx env))) λv1=>
 (bF (((fS 2 v1>=>λx=>(R.ok (D.int 1)>=>vX)>=>λl=>R.ok none>=>λh=>JD x l h)>=>Wt)>=>λmW=>iB n9 mW v1) λiX=>
 (bF ((fS 2 iX>=>λv30=>R.ok (D.int 1)>=>λuc=>mi v30 uc)>=>λmX=>R.ok (Out.nx (List.set iX 4 (Sl.val mX)))) λlR=>
 (bF (((aU 4 lR>=>λsX=>R.ok (D.int 0)>=>λsY=>R.of (Ep sX sY)>=>cK)>=>λud=>if ud=true then R.ok true else(aU 4 lR>=>λue=>((aU 0 lR>=>λsM=>R.ok []>=>λvQ=>R.ok (sM::vQ))>=>λsZ=>R.of (iI sZ))>=>λuf=>R.of (Lu ue uf)>=>cK))>=>λqR=>if qR=true then(R.ok (D.bl false)>=>λvj=>R.ok (Out.rt vj))else(R.ok (Out.nx lR))) λkc=>
 (bF (((iR 0 kc>=>λvh=>(aU 4 kc>=>vX)>=>λxH=>((aU 4 kc>=>λxJ=>R.ok (D.int 3)>=>λzN=>R.of (dH xJ zN))>=>vX)>=>λqT=>R.ok (cut vh xH qT))>=>λwo=>R.ok (D.lst wo))>=>λvO=>R.ok (Out.nx (List.set kc 5 (Sl.val vO)))) λsN=>
 (bF (((fS 2 sN>=>λB1=>R.ok (D.int 0)>=>λvP=>mi B1 vP)>=>λGQ=>R.ok (D.str "in")>=>λwm=>R.of (j9 GQ wm)>=>cK)>=>λHN=>if HN=true then(((((aU 2 sN>=>λC6=>R.ok []>=>λCm=>R.ok (C6::Cm))>=>λC8=>R.of (iI C8))>=>λBZ=>R.ok (D.int 3)>=>λC7=>R.of (j9 BZ C7))>=>λBX=>cK BX>=>λt=>if t=true then(R.ok (D.int 0)>=>λEG=>(((fS 2 sN>=>λEH=>R.ok (D.int 2)>=>λHP=>mi EH HP)>=>λEI=>R.ok []>=>λD2=>R.ok (EI::D2))>=>λEF=>R.of (tW EF))>=>λDZ=>R.of (Ep EG DZ)>=>λd=>cK d>=>λt=>if t=true then aU 1 sN>=>λz=>R.of (Ep DZ z)else R.ok (D.bl false))else R.ok (D.bl false))>=>λB0=>R.ok (Out.rt B0))else(R.ok (Out.nx sN))) λwk=>
 (bF (((((aU 2 wk>=>λJZ=>R.ok []>=>λGR=>R.ok (JZ::GR))>=>λJW=>R.of (iI JW))>=>λJU=>R.ok (D.int 2)>=>λJV=>R.of (y6 JU JV)>=>cK)>=>λD0=>if D0=true then R.ok true else(((aU 5 wk>=>λNR=>R.ok []>=>λNS=>R.ok (NR::NS))>=>λN8=>R.of (iI N8))>=>λJX=>R.ok (D.int 2)>=>λJY=>R.of (Ep JX JY)>=>cK))>=>λIA=>if IA=true then(R.ok (D.bl false)>=>λNT=>R.ok (Out.rt NT))else(R.ok (Out.nx wk))) λD1=>
 (bF (((fS 2 D1>=>λNV=>R.ok (D.int 0)>=>λNW=>mi NV NW)>=>λNU=>R.ok (D.str "out")>=>λNX=>R.of (j9 NU NX)>=>cK)>=>λN7=>if N7=true then(((iR 5 D1>=>λLx=>R.ok (D.int 0)>=>λN4=>nX Lx N4)>=>λN6=>((iR 5 D1>=>λN2=>R.ok (D.int 1)>=>λN3=>nX N2 N3)>=>λN5=>R.of (lN N5))>=>λNY=>R.of (j9 N6 NY))>=>λNZ=>R.ok (Out.rt NZ))else(R.ok (Out.nx D1))) λIB=>
 (bF (((fS 2 IB>=>λz0=>R.ok (D.int 0)>=>λzf=>mi z0 zf)>=>λsO=>R.ok (D.str "far")>=>λwu=>R.of (j9 sO wu)>=>cK)>=>λB2=>if B2=true then((((((((iR 5 IB>=>λKc=>R.ok (D.int 0)>=>λKd=>nX Kc Kd)>=>λKe=>R.ok []>=>λKf=>R.ok (Ke::Kf))>=>λKg=>R.of (tW Kg))>=>λER=>(((iR 5 IB>=>λES=>R.ok (D.int 1)>=>λKh=>nX ES Kh)>=>λKj=>R.ok []>=>λKl=>R.ok (Kj::Kl))>=>λKm=>R.of (tW Km))>=>λKn=>R.of (qN ER Kn))>=>λET=>R.ok []>=>λEU=>R.ok (ET::EU))>=>λEV=>R.of (tW EV))>=>λEY=>R.ok (D.int 1)>=>λEZ=>R.of (Lu EY EZ))>=>λxK=>R.ok (Out.rt xK))else(R.ok (Out.nx IB))) λKb=>
 (bF ((((fS 2 Kb>=>λKo=>R.ok (D.int 0)>=>λKq=>mi Ko Kq)>=>λKr=>R.ok (D.str "near")>=>λKs=>R.of (y6 Kr Ks)>=>cK)>=>λKu=>if Ku=true then R.ok true else(((aU 5 Kb>=>λKv=>R.ok []>=>λKx=>R.ok (Kv::Kx))>=>λKy=>R.of (iI Ky))>=>λKz=>R.ok (D.int 3)>=>λKA=>R.of (Ep Kz KA)>=>cK))>=>λKC=>if KC=true then(R.ok (D.bl false)>=>λKD=>R.ok (Out.rt KD))else(R.ok (Out.nx Kb))) λz5=>
 ((((iR 5 z5>=>λKG=>R.ok (D.int 0)>=>λKH=>nX KG KH)>=>λE0=>(iR 5 z5>=>λKI=>R.ok (D.int 2)>=>λKJ=>nX KI KJ)>=>λKN=>R.of (j9 E0 KN))>=>λHR=>cK HR>=>λt=>if t=true then((((iR 5 z5>=>λKO=>R.ok (D.int 0)>=>λsP=>nX KO sP)>=>λKP=>(iR 5 z5>=>λKQ=>R.ok (D.int 1)>=>λKR=>nX KQ KR)>=>λKS=>R.of (Eo KP KS))>=>λKU=>R.ok (D.int 0)>=>λKW=>R.of (Lu KU KW))>=>λKY=>cK KY>=>λt=>if t=true then(((((iR 5 z5>=>λHS=>R.ok (D.int 0)>=>λDg=>nX HS Dg)>=>λKZ=>(iR 5 z5>=>λE3=>R.ok (D.int 1)>=>λHU=>nX E3 HU)>=>λK0=>R.of (qN KZ K0))>=>λK1=>R.ok []>=>λK2=>R.ok (K1::K2))>=>λK3=>R.of (tW K3))>=>λK4=>R.ok (D.int 1)>=>λK5=>R.of (j9 K4 K5))else R.ok (D.bl false))else R.ok (D.bl false))>=>λz6=>R.ok (Out.rt z6))))))))))))
def mr:=mS 3 6 zg
def tj(env:DE):R Out:=
 (((aU 0 env>=>λv3=>qO "int" v3)>=>λv2=>cK v2>=>λt=>if t=true then((aU 0 env>=>λv5=>qO "bool" v5)>=>λv4=>cK v4>=>λt=>R.ok (D.bl (!t)))else R.ok (D.bl false))>=>λv1=>R.ok (Out.rt v1))
def eJ:=mS 1 1 tj
def f6(d:D)(env:DE):R Out:=
 (bN 2) d env>=>λkY=>
  (((((aU 0 kY>=>λmZ=>(aU 2 kY>=>λiX=>R.ok []>=>λmW=>R.ok (iX::mW))>=>λmq=>R.ok (mZ::mq))>=>eI)>=>cK)>=>λmY=>R.ok (!mY))>=>λjN=>if jN=true then(R.err "NoWord":R Out)else(R.ok (Out.nx kY)))
noncomputable def Az(env:DE):R Out:=
 (bF (((aU 0 env>=>λv4=>R.ok (D.int 1)>=>λv5=>R.of (Ep v4 v5)>=>cK)>=>λv3=>if v3=true then R.ok true else(aU 0 env>=>λv6=>R.ok (D.int 7)>=>λv7=>R.of (Lu v6 v7)>=>cK))>=>λv2=>if v2=true then(R.err "NoWord":R Out)else(R.ok (Out.nx env))) λv1=>
 (bF ((fS 1 v1>=>Jf)>=>λv9=>iB f6 v9 v1) λv8=>
 (R.ok (D.bl true)>=>λoK=>R.ok (Out.rt oK))))
def gp:=JG 2 3 Az
def HV:=λds=>R.ne (gp ds)
noncomputable def AA(env:DE):R Out:=
 ((((aU 0 env>=>λv3=>(aU 1 env>=>λv5=>(R.ok (D.int 2)>=>λv7=>R.ok []>=>λv8=>R.ok (v7::v8))>=>λv6=>R.ok (v5::v6))>=>λv4=>R.ok (v3::v4))>=>dN)>=>λv2=>cK v2>=>λt=>if t=true then((iR 0 env>=>λv11=>aU 1 env>=>λkY=>nX v11 kY)>=>λv9=>((iR 0 env>=>λmY=>(aU 1 env>=>λmq=>R.ok (D.int 1)>=>λiX=>R.of (dH mq iX))>=>λmZ=>nX mY mZ)>=>λjN=>R.of (lN jN))>=>λv10=>R.of (j9 v9 v10))else R.ok (D.bl false))>=>λv1=>R.ok (Out.rt v1))
def oO:=mS 2 2 AA
noncomputable def Dh(env:DE):R Out:=
 ((((aU 1 env>=>λv3=>(aU 2 env>=>λv5=>(R.ok (D.int 0)>=>λv7=>R.ok []>=>λv8=>R.ok (v7::v8))>=>λv6=>R.ok (v5::v6))>=>λv4=>R.ok (v3::v4))>=>dN)>=>λv2=>cK v2>=>λt=>if t=true then((aU 0 env>=>λv9=>(aU 3 env>=>λv11=>R.ok []>=>λkY=>R.ok (v11::kY))>=>λv10=>R.ok (v9::v10))>=>eI)else R.ok (D.bl false))>=>λv1=>R.ok (Out.rt v1))
def qV:=mS 4 4 Dh
noncomputable def AB(env:DE):R Out:=
 ((((aU 0 env>=>λv3=>(aU 1 env>=>λv5=>(R.ok (D.int 2)>=>λv7=>R.ok []>=>λv8=>R.ok (v7::v8))>=>λv6=>R.ok (v5::v6))>=>λv4=>R.ok (v3::v4))>=>dN)>=>λv2=>cK v2>=>λt=>if t=true then(((((((iR 0 env>=>λoK=>aU 1 env>=>λv20=>nX oK v20)>=>λiX=>R.ok []>=>λmW=>R.ok (iX::mW))>=>λmq=>R.of (tW mq))>=>λmY=>(((iR 0 env>=>λpT=>(aU 1 env>=>λpV=>R.ok (D.int 1)>=>λoM=>R.of (dH pV oM))>=>λm5=>nX pT m5)>=>λj7=>R.ok []>=>λoE=>R.ok (j7::oE))>=>λpU=>R.of (tW pU))>=>λmZ=>R.of (qN mY mZ))>=>λkY=>R.ok []>=>λjN=>R.ok (kY::jN))>=>λv11=>R.of (tW v11))>=>λv9=>R.ok (D.int 2)>=>λv10=>R.of (Tn v9 v10))else R.ok (D.bl false))>=>λv1=>R.ok (Out.rt v1))
def oQ:=mS 2 2 AB
noncomputable def zh(env:DE):R Out:=
 (bF ((((((aU 0 env>=>λv5=>(aU 1 env>=>λv7=>(R.ok (D.int 3)>=>λv9=>R.ok []>=>λv10=>R.ok (v9::v10))>=>λv8=>R.ok (v7::v8))>=>λv6=>R.ok (v5::v6))>=>dN)>=>cK)>=>λv4=>R.ok (!v4))>=>λv3=>if v3=true then R.ok true else((iR 0 env>=>λjN=>aU 1 env>=>λmY=>nX jN mY)>=>λv11=>(iR 0 env>=>λmZ=>(aU 1 env>=>λiX=>R.ok (D.int 2)>=>λmW=>R.of (dH iX mW))>=>λmq=>nX mZ mq)>=>λkY=>R.of (y6 v11 kY)>=>cK))>=>λv2=>if v2=true then(R.ok (D.bl false)>=>λoK=>R.ok (Out.rt oK))else(R.ok (Out.nx env))) λv1=>
 ((((((iR 0 v1>=>λlR=>aU 1 v1>=>λmX=>nX lR mX)>=>λpV=>(iR 0 v1>=>λv30=>(aU 1 v1>=>λkc=>R.ok (D.int 1)>=>λqR=>R.of (dH kc qR))>=>λuc=>nX v30 uc)>=>λoM=>R.of (qN pV oM))>=>λpT=>R.ok []>=>λm5=>R.ok (pT::m5))>=>λoE=>R.of (tW oE))>=>λpU=>R.ok (D.int 1)>=>λj7=>R.of (j9 pU j7))>=>λv20=>R.ok (Out.rt v20)))
def mw:=mS 2 2 zh
def ug(d:D)(env:DE):R Out:=
 (bN 2) d env>=>λwm=>
  ((((R.bad:R D)>=>cK)>=>λvP=>R.ok (!vP))>=>λB1=>if B1=true then(R.ok (D.bl false)>=>λB0=>R.ok (Out.rt B0))else(R.ok (Out.nx wm)))
noncomputable def xM(env:DE):R Out:=
 (bF ((aU 1 env>=>λv3=>R.ok D.non>=>λv4=>R.of (t6 v3 v4)>=>cK)>=>λv2=>if v2=true then((aU 0 env>=>λv6=>R.ok D.non>=>λv7=>R.of (t6 v6 v7))>=>λv5=>R.ok (Out.rt v5))else(R.ok (Out.nx env))) λv1=>
 (bF (((aU 1 v1>=>λv10=>qO "int" v10)>=>cK)>=>λv9=>if v9=true then((((aU 0 v1>=>λjN=>R.ok []>=>λmY=>R.ok (jN::mY))>=>eJ)>=>λkY=>cK kY>=>λt=>if t=true then(aU 0 v1>=>λmZ=>aU 1 v1>=>λmq=>R.of (j9 mZ mq))else R.ok (D.bl false))>=>λv11=>R.ok (Out.rt v11))else(R.ok (Out.nx v1))) λv8=>
 (bF (((aU 1 v8>=>λoK=>qO "str" oK)>=>cK)>=>λmW=>if mW=true then(((aU 0 v8>=>λj7=>qO "str" j7)>=>λpU=>cK pU>=>λt=>if t=true then(aU 0 v8>=>λoE=>aU 1 v8>=>λpT=>R.of (j9 oE pT))else R.ok (D.bl false))>=>λv20=>R.ok (Out.rt v20))else(R.ok (Out.nx v8))) λiX=>
 (bF ((((aU 1 iX>=>λlR=>qO "tuple" lR)>=>cK)>=>λoM=>if oM=true then(((aU 0 iX>=>λv30=>qO "tuple" v30)>=>cK)>=>λmX=>R.ok (!mX))else R.ok false)>=>λpV=>if pV=true then(R.ok (D.bl false)>=>λuc=>R.ok (Out.rt uc))else(R.ok (Out.nx iX))) λm5=>
 (bF ((((aU 1 m5>=>λsX=>qO "list" sX)>=>cK)>=>λud=>if ud=true then(((aU 0 m5>=>λue=>qO "list" ue)>=>cK)>=>λsY=>R.ok (!sY))else R.ok false)>=>λqR=>if qR=true then(R.ok (D.bl false)>=>λuf=>R.ok (Out.rt uf))else(R.ok (Out.nx m5))) λkc=>
 (bF ((((aU 0 kc>=>λvO=>R.ok []>=>λwo=>R.ok (vO::wo))>=>λsN=>R.of (iI sN))>=>λvQ=>((aU 1 kc>=>λxH=>R.ok []>=>λqT=>R.ok (xH::qT))>=>λvh=>R.of (iI vh))>=>λvj=>R.of (y6 vQ vj)>=>cK)>=>λsM=>if sM=true then(R.ok (D.bl false)>=>λxJ=>R.ok (Out.rt xJ))else(R.ok (Out.nx kc))) λsZ=>
 (bF (((((aU 1 sZ>=>λC8=>R.ok []>=>λC6=>R.ok (C8::C6))>=>λC7=>R.of (iI C7))>=>λBX=>R.ok []>=>λBZ=>R.ok (BX::BZ))>=>Hz)>=>λwk=>iB ug wk sZ) λzN=>
 (R.ok (D.bl true)>=>λCm=>R.ok (Out.rt Cm)))))))))
def k9:=mS 2 3 xM
def og(env:DE):R Bool:=
 ((aU 0 env>=>λiX=>R.ok (D.int 0)>=>λmW=>R.of (j9 iX mW)>=>cK)>=>λmq=>if mq=true then R.ok true else(((aU 0 env>=>λj7=>R.ok []>=>λoE=>R.ok (j7::oE))>=>λpU=>R.of (tW pU))>=>λoK=>aU 1 env>=>λv20=>R.of (Tn oK v20)>=>cK))
def z7(env:DE):R D:=
 (fS 0 env)
noncomputable def zj(env:DE):R Out:=
 (bF (((fS 2 env>=>λv5=>R.ok (D.int 0)>=>λv6=>mi v5 v6)>=>λv3=>R.ok (D.str "hang")>=>λv4=>R.of (j9 v3 v4)>=>cK)>=>λv2=>if v2=true then(((((((fS 2 env>=>λpT=>R.ok (D.int 1)>=>λm5=>mi pT m5)>=>Jf)>=>λkY=>yV env [0]>=>λjN=>R.ne (qm (bN 0) og z7 (vY 1 jN) kY)>=>fit)>=>λv11=>R.ok (D.lst v11))>=>λv9=>((R.ok []>=>fit)>=>λpV=>R.ok (D.lst pV))>=>λv10=>R.of (j9 v9 v10)>=>cK)>=>λv8=>if v8=true then(R.ok (D.str ""))else(R.ok (D.str "word")))>=>λv7=>R.ok (Out.rt v7))else(R.ok (Out.nx env))) λv1=>
 (bF (((fS 2 v1>=>λuc=>R.ok (D.int 0)>=>λkc=>mi uc kc)>=>λmX=>R.ok (D.str "drop")>=>λv30=>R.of (j9 mX v30)>=>cK)>=>λlR=>if lR=true then(((R.ok (D.int 0)>=>λsX=>(fS 2 v1>=>λue=>R.ok (D.int 1)>=>λuf=>mi ue uf)>=>λsY=>R.of (Tj sX sY)>=>λd=>cK d>=>λt=>if t=true then ((aU 1 v1>=>λsM=>R.ok []>=>λvQ=>R.ok (sM::vQ))>=>λsZ=>R.of (iI sZ))>=>λz=>R.of (Tj sY z)>=>cK else R.ok false)>=>λud=>if ud=true then(R.ok (D.str ""))else(R.ok (D.str "move")))>=>λqR=>R.ok (Out.rt qR))else(R.ok (Out.nx v1))) λoM=>
 (((((aU 1 oM>=>λvO=>(aU 0 oM>=>λvh=>((fS 2 oM>=>λzN=>R.ok (D.int 1)>=>λwk=>mi zN wk)>=>λqT=>R.ok []>=>λxJ=>R.ok (qT::xJ))>=>λxH=>R.ok (vh::xH))>=>λwo=>R.ok (vO::wo))>=>mr)>=>cK)>=>λsN=>if sN=true then(R.ok (D.str ""))else(R.ok (D.str "move")))>=>λvj=>R.ok (Out.rt vj))))
def my:=mS 3 3 zj
noncomputable def tm(env:DE):R Out:=
 (bF (((fS 1 env>=>λv5=>R.ok (D.int 0)>=>λv6=>mi v5 v6)>=>λv3=>R.ok (D.str "hang")>=>λv4=>R.of (j9 v3 v4)>=>cK)>=>λv2=>if v2=true then(((iR 0 env>=>λv9=>((fS 1 env>=>λv11=>R.ok (D.int 1)>=>λkY=>mi v11 kY)>=>Jf)>=>λv10=>fit (v9++v10))>=>λv8=>R.ok (D.lst v8))>=>λv7=>R.ok (Out.rt v7))else(R.ok (Out.nx env))) λv1=>
 (bF (((fS 1 v1>=>λiX=>R.ok (D.int 0)>=>λmW=>mi iX mW)>=>λmZ=>R.ok (D.str "drop")>=>λmq=>R.of (j9 mZ mq)>=>cK)>=>λmY=>if mY=true then(((iR 0 v1>=>λpU=>R.ok none>=>λj7=>((((aU 0 v1>=>λoM=>R.ok []>=>λlR=>R.ok (oM::lR))>=>λpV=>R.of (iI pV))>=>λpT=>(fS 1 v1>=>λmX=>R.ok (D.int 1)>=>λv30=>mi mX v30)>=>λm5=>R.of (qN pT m5))>=>vX)>=>λoE=>R.ok (cut pU j7 oE))>=>λv20=>R.ok (D.lst v20))>=>λoK=>R.ok (Out.rt oK))else(R.ok (Out.nx v1))) λjN=>
 ((((fS 0 jN>=>λqR=>((fS 1 jN>=>λue=>R.ok (D.int 1)>=>λuf=>mi ue uf)>=>λsX=>R.ok []>=>λsY=>R.ok (sX::sY))>=>λud=>R.ok (qR::ud))>=>kM)>=>λkc=>R.ok (D.lst kc))>=>λuc=>R.ok (Out.rt uc))))
def iY:=mD 2 2 tm
noncomputable def tw(env:DE):R Out:=
 (bF ((fS 2 env>=>λv3=>R.ok (D.int 0)>=>λv4=>mi v3 v4)>=>λv2=>R.ok (Out.nx (List.set env 3 (Sl.val v2)))) λv1=>
 (bF ((fS 2 v1>=>λv7=>R.ok (D.int 1)>=>λv8=>mi v7 v8)>=>λv6=>R.ok (Out.nx (List.set v1 4 (Sl.val v6)))) λv5=>
 (bF ((aU 3 v5>=>λv11=>R.ok (D.str "out")>=>λkY=>R.of (j9 v11 kY)>=>cK)>=>λv10=>if v10=true then(((aU 1 v5>=>λmY=>(aU 4 v5>=>λmq=>R.ok []>=>λiX=>R.ok (mq::iX))>=>λmZ=>R.ok (mY::mZ))>=>oO)>=>λjN=>R.ok (Out.rt jN))else(R.ok (Out.nx v5))) λv9=>
 (bF ((aU 3 v9>=>λv20=>R.ok (D.str "in")>=>λpU=>R.of (j9 v20 pU)>=>cK)>=>λoK=>if oK=true then(((aU 0 v9>=>λoE=>(aU 1 v9>=>λm5=>(aU 4 v9>=>λoM=>((fS 2 v9>=>λuc=>R.ok (D.int 2)>=>λkc=>mi uc kc)>=>λmX=>R.ok []>=>λv30=>R.ok (mX::v30))>=>λlR=>R.ok (oM::lR))>=>λpV=>R.ok (m5::pV))>=>λpT=>R.ok (oE::pT))>=>qV)>=>λj7=>R.ok (Out.rt j7))else(R.ok (Out.nx v9))) λmW=>
 (bF ((aU 3 mW>=>λsX=>R.ok (D.str "far")>=>λsY=>R.of (j9 sX sY)>=>cK)>=>λud=>if ud=true then(((aU 1 mW>=>λuf=>(aU 4 mW>=>λsM=>R.ok []>=>λvQ=>R.ok (sM::vQ))>=>λsZ=>R.ok (uf::sZ))>=>oQ)>=>λue=>R.ok (Out.rt ue))else(R.ok (Out.nx mW))) λqR=>
 (((aU 1 qR>=>λsN=>(aU 4 qR>=>λwo=>R.ok []>=>λvh=>R.ok (wo::vh))>=>λvO=>R.ok (sN::vO))>=>mw)>=>λvj=>R.ok (Out.rt vj)))))))
def iZ:=mS 3 5 tw
noncomputable def uh(d:D)(env:DE):R Out:=
 (bN 2) d env>=>λwm=>
  ((((((fS 0 wm>=>λBZ=>aU 2 wm>=>λC7=>mi BZ C7)>=>λB0=>((fS 1 wm>=>λCm=>aU 2 wm>=>λEG=>mi Cm EG)>=>λC8=>R.ok []>=>λC6=>R.ok (C8::C6))>=>λBX=>R.ok (B0::BX))>=>k9)>=>cK)>=>λvP=>R.ok (!vP))>=>λB1=>if B1=true then(R.ok (D.bl false)>=>λDZ=>R.ok (Out.rt DZ))else(R.ok (Out.nx wm)))
noncomputable def qp(env:DE):R Out:=
 (bF ((aU 1 env>=>λv3=>R.ok D.non>=>λv4=>R.of (t6 v3 v4)>=>cK)>=>λv2=>if v2=true then((aU 0 env>=>λv6=>R.ok D.non>=>λv7=>R.of (t6 v6 v7))>=>λv5=>R.ok (Out.rt v5))else(R.ok (Out.nx env))) λv1=>
 (bF (((aU 1 v1>=>λv10=>qO "int" v10)>=>cK)>=>λv9=>if v9=true then((((aU 0 v1>=>λjN=>R.ok []>=>λmY=>R.ok (jN::mY))>=>eJ)>=>λkY=>cK kY>=>λt=>if t=true then(aU 0 v1>=>λmZ=>aU 1 v1>=>λmq=>R.of (j9 mZ mq))else R.ok (D.bl false))>=>λv11=>R.ok (Out.rt v11))else(R.ok (Out.nx v1))) λv8=>
 (bF (((aU 1 v8>=>λoK=>qO "str" oK)>=>cK)>=>λmW=>if mW=true then(((aU 0 v8>=>λj7=>qO "str" j7)>=>λpU=>cK pU>=>λt=>if t=true then(aU 0 v8>=>λoE=>aU 1 v8>=>λpT=>R.of (j9 oE pT))else R.ok (D.bl false))>=>λv20=>R.ok (Out.rt v20))else(R.ok (Out.nx v8))) λiX=>
 (bF ((((aU 1 iX>=>λlR=>qO "tuple" lR)>=>cK)>=>λoM=>if oM=true then(((aU 0 iX>=>λv30=>qO "tuple" v30)>=>cK)>=>λmX=>R.ok (!mX))else R.ok false)>=>λpV=>if pV=true then(R.ok (D.bl false)>=>λuc=>R.ok (Out.rt uc))else(R.ok (Out.nx iX))) λm5=>
 (bF ((((aU 1 m5>=>λsX=>qO "list" sX)>=>cK)>=>λud=>if ud=true then(((aU 0 m5>=>λue=>qO "list" ue)>=>cK)>=>λsY=>R.ok (!sY))else R.ok false)>=>λqR=>if qR=true then(R.ok (D.bl false)>=>λuf=>R.ok (Out.rt uf))else(R.ok (Out.nx m5))) λkc=>
 (bF ((((aU 0 kc>=>λvO=>R.ok []>=>λwo=>R.ok (vO::wo))>=>λsN=>R.of (iI sN))>=>λvQ=>((aU 1 kc>=>λxH=>R.ok []>=>λqT=>R.ok (xH::qT))>=>λvh=>R.of (iI vh))>=>λvj=>R.of (y6 vQ vj)>=>cK)>=>λsM=>if sM=true then(R.ok (D.bl false)>=>λxJ=>R.ok (Out.rt xJ))else(R.ok (Out.nx kc))) λsZ=>
 (bF (((((aU 1 sZ>=>λEH=>R.ok []>=>λHP=>R.ok (EH::HP))>=>λD2=>R.of (iI D2))>=>λEF=>R.ok []>=>λEI=>R.ok (EF::EI))>=>Hz)>=>λwk=>iB uh wk sZ) λzN=>
 (R.ok (D.bl true)>=>λD1=>R.ok (Out.rt D1)))))))))
def fV:=mS 2 3 qp
def nC(env:DE):R Out:=
 (((((aU 0 env>=>λv3=>(aU 1 env>=>λv5=>(aU 2 env>=>λv7=>R.ok []>=>λv8=>R.ok (v7::v8))>=>λv6=>R.ok (v5::v6))>=>λv4=>R.ok (v3::v4))>=>iZ)>=>cK)>=>λv2=>R.ok (!v2))>=>λv1=>if v1=true then(R.err "NoMove":R Out)else(R.ok (Out.nx env)))
def bC:=JG 3 3 nC
def vp:=λds=>R.ne (bC ds)
noncomputable def lg(d:D)(env:DE):R Out:=
 (bN 2) d env>=>λwm=>
  ((((((fS 0 wm>=>λBZ=>aU 2 wm>=>λC7=>mi BZ C7)>=>λB0=>((fS 1 wm>=>λCm=>aU 2 wm>=>λEG=>mi Cm EG)>=>λC8=>R.ok []>=>λC6=>R.ok (C8::C6))>=>λBX=>R.ok (B0::BX))>=>fV)>=>cK)>=>λvP=>R.ok (!vP))>=>λB1=>if B1=true then(R.ok (D.bl false)>=>λDZ=>R.ok (Out.rt DZ))else(R.ok (Out.nx wm)))
noncomputable def vq(env:DE):R Out:=
 (bF ((aU 1 env>=>λv3=>R.ok D.non>=>λv4=>R.of (t6 v3 v4)>=>cK)>=>λv2=>if v2=true then((aU 0 env>=>λv6=>R.ok D.non>=>λv7=>R.of (t6 v6 v7))>=>λv5=>R.ok (Out.rt v5))else(R.ok (Out.nx env))) λv1=>
 (bF (((aU 1 v1>=>λv10=>qO "int" v10)>=>cK)>=>λv9=>if v9=true then((((aU 0 v1>=>λjN=>R.ok []>=>λmY=>R.ok (jN::mY))>=>eJ)>=>λkY=>cK kY>=>λt=>if t=true then(aU 0 v1>=>λmZ=>aU 1 v1>=>λmq=>R.of (j9 mZ mq))else R.ok (D.bl false))>=>λv11=>R.ok (Out.rt v11))else(R.ok (Out.nx v1))) λv8=>
 (bF (((aU 1 v8>=>λoK=>qO "str" oK)>=>cK)>=>λmW=>if mW=true then(((aU 0 v8>=>λj7=>qO "str" j7)>=>λpU=>cK pU>=>λt=>if t=true then(aU 0 v8>=>λoE=>aU 1 v8>=>λpT=>R.of (j9 oE pT))else R.ok (D.bl false))>=>λv20=>R.ok (Out.rt v20))else(R.ok (Out.nx v8))) λiX=>
 (bF ((((aU 1 iX>=>λlR=>qO "tuple" lR)>=>cK)>=>λoM=>if oM=true then(((aU 0 iX>=>λv30=>qO "tuple" v30)>=>cK)>=>λmX=>R.ok (!mX))else R.ok false)>=>λpV=>if pV=true then(R.ok (D.bl false)>=>λuc=>R.ok (Out.rt uc))else(R.ok (Out.nx iX))) λm5=>
 (bF ((((aU 1 m5>=>λsX=>qO "list" sX)>=>cK)>=>λud=>if ud=true then(((aU 0 m5>=>λue=>qO "list" ue)>=>cK)>=>λsY=>R.ok (!sY))else R.ok false)>=>λqR=>if qR=true then(R.ok (D.bl false)>=>λuf=>R.ok (Out.rt uf))else(R.ok (Out.nx m5))) λkc=>
 (bF ((((aU 0 kc>=>λvO=>R.ok []>=>λwo=>R.ok (vO::wo))>=>λsN=>R.of (iI sN))>=>λvQ=>((aU 1 kc>=>λxH=>R.ok []>=>λqT=>R.ok (xH::qT))>=>λvh=>R.of (iI vh))>=>λvj=>R.of (y6 vQ vj)>=>cK)>=>λsM=>if sM=true then(R.ok (D.bl false)>=>λxJ=>R.ok (Out.rt xJ))else(R.ok (Out.nx kc))) λsZ=>
 (bF (((((aU 1 sZ>=>λEH=>R.ok []>=>λHP=>R.ok (EH::HP))>=>λD2=>R.of (iI D2))>=>λEF=>R.ok []>=>λEI=>R.ok (EF::EI))>=>Hz)>=>λwk=>iB lg wk sZ) λzN=>
 (R.ok (D.bl true)>=>λD1=>R.ok (Out.rt D1)))))))))
def f9:=mS 2 3 vq
noncomputable def qW(env:DE):R Out:=
 (bF ((aU 2 env>=>λv3=>R.ok (D.int 3)>=>λv4=>R.of (kR v3 v4))>=>λv2=>R.ok (Out.nx (List.set env 4 (Sl.val v2)))) λv1=>
 (bF ((aU 2 v1>=>λv7=>R.ok (D.int 3)>=>λv8=>R.of (nW v7 v8))>=>λv6=>R.ok (Out.nx (List.set v1 2 (Sl.val v6)))) λv5=>
 (bF ((aU 4 v5>=>λv11=>R.ok (D.int 0)>=>λkY=>R.of (j9 v11 kY)>=>cK)>=>λv10=>if v10=true then(bF (((((((fS 2 v5>=>λoK=>((aU 2 v5>=>λoE=>R.ok (D.int 7)>=>λpT=>R.of (nW oE pT))>=>λpU=>R.ok []>=>λj7=>R.ok (pU::j7))>=>λv20=>R.ok (oK::v20))>=>fit)>=>λmW=>R.ok (D.lst mW))>=>λmq=>(fS 0 v5>=>λm5=>(R.ok (D.int 3)>=>λoM=>R.ok []>=>λlR=>R.ok (oM::lR))>=>λpV=>R.ok (m5::pV))>=>λiX=>R.ok (mq::iX))>=>jP)>=>λmZ=>R.ok (D.lst mZ))>=>λmY=>R.ok (Out.nx (List.set v5 5 (Sl.val mY)))) λjN=>
 (bF (((aU 2 jN>=>λqR=>R.ok (D.int 3)>=>λud=>R.of (nW qR ud))>=>λuc=>(((aU 5 jN>=>λuf=>R.ok []>=>λsZ=>R.ok (uf::sZ))>=>λue=>R.of (iI ue))>=>λsX=>R.ok (D.int 1)>=>λsY=>R.of (dH sX sY))>=>λkc=>R.of (kR uc kc))>=>λv30=>R.ok (Out.nx (List.set jN 6 (Sl.val v30)))) λmX=>
 (bF ((((((R.ok []>=>fit)>=>λvh=>R.ok (D.lst vh))>=>λvO=>(((R.ok []>=>fit)>=>λxJ=>R.ok (D.lst xJ))>=>λxH=>((((R.ok (D.int 0)>=>λGQ=>R.ok []>=>λwm=>R.ok (GQ::wm))>=>fit)>=>λHN=>R.ok (D.lst HN))>=>λzN=>((((fS 0 mX>=>λBX=>R.ok []>=>λBZ=>R.ok (BX::BZ))>=>fit)>=>λB0=>R.ok (D.lst B0))>=>λB1=>(((((aU 0 mX>=>λDZ=>R.of (lN DZ))>=>λCm=>R.ok []>=>λEG=>R.ok (Cm::EG))>=>fit)>=>λC6=>R.ok (D.lst C6))>=>λC7=>(((((aU 0 mX>=>λD1=>aU 3 mX>=>λIA=>R.of (dH D1 IA))>=>λEH=>R.ok []>=>λHP=>R.ok (EH::HP))>=>fit)>=>λD2=>R.ok (D.lst D2))>=>λEF=>((((((aU 0 mX>=>λJY=>R.of (lN JY))>=>λGR=>aU 3 mX>=>λJX=>R.of (qN GR JX))>=>λJW=>R.ok []>=>λJZ=>R.ok (JW::JZ))>=>fit)>=>λJV=>R.ok (D.lst JV))>=>λD0=>R.ok []>=>λJU=>R.ok (D0::JU))>=>λEI=>R.ok (EF::EI))>=>λC8=>R.ok (C7::C8))>=>λvP=>R.ok (B1::vP))>=>λwk=>R.ok (zN::wk))>=>λqT=>R.ok (xH::qT))>=>λwo=>R.ok (vO::wo))>=>fit)>=>λvj=>((aU 2 mX>=>λNS=>R.ok (D.int 16)>=>λNT=>R.of (nW NS NT))>=>λN8=>R.ok (D.int 7)>=>λNR=>R.of (kR N8 NR))>=>λsN=>nX vj sN)>=>λvQ=>R.ok (Out.nx (List.set mX 7 (Sl.val vQ)))) λsM=>
 ((((R.ok (D.str "hang")>=>λN7=>(((((iR 5 sM>=>λN4=>R.ok none>=>λN5=>(aU 6 sM>=>vX)>=>λN2=>R.ok (cut N4 N5 N2))>=>λNY=>iR 7 sM>=>λLx=>fit (NY++Lx))>=>λNZ=>(iR 5 sM>=>λN3=>(aU 6 sM>=>vX)>=>λKb=>R.ok none>=>λB2=>R.ok (cut N3 Kb B2))>=>λN6=>fit (NZ++N6))>=>λNW=>R.ok (D.lst NW))>=>λNX=>R.ok []>=>λNV=>R.ok (NX::NV))>=>λNU=>R.ok (N7::NU))>=>fit)>=>λds=>R.ok (D.tup ds))>=>λIB=>R.ok (Out.rt IB)))))else(R.ok (Out.nx v5))) λv9=>
 (bF ((aU 4 v9>=>λz0=>R.ok (D.int 1)>=>λzf=>R.of (j9 z0 zf)>=>cK)>=>λwu=>if wu=true then(bF ((((R.ok (D.int 0)>=>λEV=>(((aU 1 v9>=>λKg=>R.ok []>=>λKe=>R.ok (Kg::Ke))>=>λKn=>R.of (iI Kn))>=>λEU=>((((aU 1 v9>=>λKl=>R.ok []>=>λES=>R.ok (Kl::ES))>=>λKj=>R.of (iI Kj))>=>λKd=>R.ok (D.int 1)>=>λKm=>R.of (dH Kd Km))>=>λKf=>((R.ok (D.int 1)>=>λKC=>R.of (lN KC))>=>λKh=>(((((aU 1 v9>=>λKy=>R.ok []>=>λKv=>R.ok (Ky::Kv))>=>λKA=>R.of (iI KA))>=>λKq=>R.ok (D.int 1)>=>λKz=>R.of (dH Kq Kz))>=>λKs=>aU 3 v9>=>λKo=>R.of (dH Ks Ko))>=>λKu=>(((R.ok (D.int 1)>=>λE0=>R.of (lN E0))>=>λz6=>aU 3 v9>=>λHR=>R.of (qN z6 HR))>=>λKx=>(R.ok (D.int 1)>=>λKN=>R.ok []>=>λKG=>R.ok (KN::KG))>=>λKD=>R.ok (Kx::KD))>=>λKr=>R.ok (Ku::Kr))>=>λz5=>R.ok (Kh::z5))>=>λKc=>R.ok (Kf::Kc))>=>λER=>R.ok (EU::ER))>=>λET=>R.ok (EV::ET))>=>fit)>=>λEZ=>R.ok (D.lst EZ))>=>λEY=>R.ok (Out.nx (List.set v9 8 (Sl.val EY)))) λxK=>
 ((((R.ok (D.str "drop")>=>λKI=>((iR 8 xK>=>λKW=>(aU 2 xK>=>λKS=>R.ok (D.int 7)>=>λKO=>R.of (kR KS KO))>=>λKP=>nX KW KP)>=>λKY=>R.ok []>=>λKU=>R.ok (KY::KU))>=>λKJ=>R.ok (KI::KJ))>=>fit)>=>λds=>R.ok (D.tup ds))>=>λKH=>R.ok (Out.rt KH)))else(R.ok (Out.nx v9))) λsO=>
 (bF ((((R.ok (D.int 0)>=>λK5=>(((aU 2 sO>=>λHS=>R.ok (D.int 21)>=>λDg=>R.of (nW HS Dg))>=>λKZ=>(((aU 1 sO>=>λRv=>R.ok []>=>λRw=>R.ok (Rv::Rw))>=>λN9=>R.of (iI N9))>=>λE3=>R.ok (D.int 1)>=>λHU=>R.of (dH E3 HU))>=>λK0=>R.of (kR KZ K0))>=>λK1=>(((aU 1 sO>=>λRx=>R.ok []>=>λRy=>R.ok (Rx::Ry))>=>λRz=>R.of (iI Rz))>=>λRA=>((R.ok (D.int 1)>=>λRB=>R.of (lN RB))>=>λRD=>((((aU 1 sO>=>λRE=>R.ok []>=>λRG=>R.ok (RE::RG))>=>λRH=>R.of (iI RH))>=>λRJ=>R.ok (D.int 1)>=>λRK=>R.of (dH RJ RK))>=>λRL=>(fS 3 sO>=>λRM=>((aU 3 sO>=>λRN=>R.of (lN RN))>=>λRO=>R.ok []>=>λRP=>R.ok (RO::RP))>=>λRQ=>R.ok (RM::RQ))>=>λRT=>R.ok (RL::RT))>=>λRU=>R.ok (RD::RU))>=>λRV=>R.ok (RA::RV))>=>λK2=>R.ok (K1::K2))>=>λK3=>R.ok (K5::K3))>=>fit)>=>λKR=>(aU 2 sO>=>λRW=>R.ok (D.int 7)>=>λRX=>R.of (kR RW RX))>=>λK4=>nX KR K4)>=>λKQ=>R.ok (Out.nx (List.set sO 6 (Sl.val KQ)))) λsP=>
 (bF ((((aU 2 sP>=>λOa=>R.ok (D.int 7)>=>λK6=>R.of (nW Oa K6))>=>λYv=>R.ok (D.int 3)>=>λHW=>R.of (kR Yv HW))>=>λRY=>R.ok (D.int 0)>=>λYw=>R.of (j9 RY Yw)>=>cK)>=>λOb=>if Ob=true then((((R.ok (D.str "go")>=>λRZ=>((((R.ok (D.str "in")>=>λR0=>(fS 6 sP>=>λR3=>((((R.ok (D.int 1)>=>λR4=>((R.ok (D.int 1)>=>λR5=>R.of (lN R5))>=>λR6=>((aU 0 sP>=>λR7=>R.ok (D.int 1)>=>λR8=>R.of (qN R7 R8))>=>λR9=>((R.ok (D.int 1)>=>λSd=>aU 0 sP>=>λSe=>R.of (qN Sd Se))>=>λSf=>(R.ok (D.int 0)>=>λSg=>(fS 0 sP>=>λK7=>((aU 0 sP>=>λSh=>R.of (lN Sh))>=>λSi=>((aU 0 sP>=>λOc=>aU 3 sP>=>λSn=>R.of (dH Oc Sn))>=>λSo=>(((aU 0 sP>=>λYx=>R.of (lN Yx))>=>λYy=>aU 3 sP>=>λYz=>R.of (qN Yy Yz))>=>λSq=>R.ok []>=>λYA=>R.ok (Sq::YA))>=>λSs=>R.ok (So::Ss))>=>λSu=>R.ok (Si::Su))>=>λSv=>R.ok (K7::Sv))>=>λSw=>R.ok (Sg::Sw))>=>λSx=>R.ok (Sf::Sx))>=>λSy=>R.ok (R9::Sy))>=>λSz=>R.ok (R6::Sz))>=>λSA=>R.ok (R4::SA))>=>fit)>=>λSD=>((aU 2 sP>=>λYB=>R.ok (D.int 147)>=>λYC=>R.of (nW YB YC))>=>λYD=>R.ok (D.int 9)>=>λYE=>R.of (kR YD YE))>=>λSE=>nX SD SE)>=>λSG=>R.ok []>=>λSH=>R.ok (SG::SH))>=>λSJ=>R.ok (R3::SJ))>=>λSK=>R.ok (R0::SK))>=>fit)>=>λds=>R.ok (D.tup ds))>=>λSM=>R.ok []>=>λSN=>R.ok (SM::SN))>=>λSQ=>R.ok (RZ::SQ))>=>fit)>=>λds=>R.ok (D.tup ds))>=>λOd=>R.ok (Out.rt Od))else(R.ok (Out.nx sP))) λOe=>
 ((((R.ok (D.str "go")>=>λYF=>(((((((R.ok (D.str "out")>=>λYG=>(R.ok (D.str "far")>=>λYH=>(R.ok (D.str "near")>=>λYJ=>R.ok []>=>λYK=>R.ok (YJ::YK))>=>λYL=>R.ok (YH::YL))>=>λYM=>R.ok (YG::YM))>=>fit)>=>λYN=>((aU 2 Oe>=>λYQ=>R.ok (D.int 147)>=>λYR=>R.of (nW YQ YR))>=>λYS=>R.ok (D.int 3)>=>λYT=>R.of (kR YS YT))>=>λYU=>nX YN YU)>=>λYV=>(fS 6 Oe>=>λYW=>R.ok []>=>λYX=>R.ok (YW::YX))>=>λYY=>R.ok (YV::YY))>=>fit)>=>λds=>R.ok (D.tup ds))>=>λYZ=>R.ok []>=>λY0=>R.ok (YZ::Y0))>=>λY1=>R.ok (YF::Y1))>=>fit)>=>λds=>R.ok (D.tup ds))>=>λY2=>R.ok (Out.rt Y2))))))))
def g8:=mD 4 9 qW
noncomputable def GW(env:DE):R Out:=
 (bF (((aU 0 env>=>λv3=>(aU 1 env>=>λv5=>(aU 2 env>=>λv7=>R.ok []>=>λv8=>R.ok (v7::v8))>=>λv6=>R.ok (v5::v6))>=>λv4=>R.ok (v3::v4))>=>bC)>=>λv2=>R.ok (Out.nx env)) λv1=>
 (bF ((fS 2 v1>=>λv11=>R.ok (D.int 0)>=>λkY=>mi v11 kY)>=>λv10=>R.ok (Out.nx (List.set v1 3 (Sl.val v10)))) λv9=>
 (bF ((fS 2 v9>=>λmZ=>R.ok (D.int 1)>=>λmq=>mi mZ mq)>=>λmY=>R.ok (Out.nx (List.set v9 4 (Sl.val mY)))) λjN=>
 (bF ((aU 3 jN>=>λoK=>R.ok (D.str "out")>=>λv20=>R.of (j9 oK v20)>=>cK)>=>λmW=>if mW=true then(((iR 1 jN>=>λpT=>R.ok none>=>λm5=>(aU 4 jN>=>vX)>=>λpV=>R.ok (cut pT m5 pV))>=>λj7=>(iR 1 jN>=>λoM=>((aU 4 jN>=>λv30=>R.ok (D.int 2)>=>λuc=>R.of (dH v30 uc))>=>vX)>=>λlR=>R.ok none>=>λmX=>R.ok (cut oM lR mX))>=>λoE=>fit (j7++oE))>=>λpU=>R.ok (Out.xm pU))else(R.ok (Out.nx jN))) λiX=>
 (bF ((aU 3 iX>=>λud=>R.ok (D.str "in")>=>λsX=>R.of (j9 ud sX)>=>cK)>=>λqR=>if qR=true then((((iR 1 iX>=>λvQ=>R.ok none>=>λvj=>(aU 4 iX>=>vX)>=>λsN=>R.ok (cut vQ vj sN))>=>λsZ=>(((fS 2 iX>=>λvh=>R.ok (D.int 2)>=>λxH=>mi vh xH)>=>λvO=>(((fS 2 iX>=>λwk=>R.ok (D.int 2)>=>λHN=>mi wk HN)>=>λzN=>R.of (lN zN))>=>λqT=>R.ok []>=>λxJ=>R.ok (qT::xJ))>=>λwo=>R.ok (vO::wo))>=>fit)>=>λsM=>fit (sZ++sM))>=>λue=>(iR 1 iX>=>λGQ=>(aU 4 iX>=>vX)>=>λwm=>R.ok none>=>λB1=>R.ok (cut GQ wm B1))>=>λuf=>fit (ue++uf))>=>λsY=>R.ok (Out.xm sY))else(R.ok (Out.nx iX))) λkc=>
 (bF ((aU 3 kc>=>λBX=>R.ok (D.str "far")>=>λBZ=>R.of (j9 BX BZ)>=>cK)>=>λB0=>if B0=true then((((iR 1 kc>=>λDZ=>R.ok none>=>λEF=>(aU 4 kc>=>vX)>=>λEI=>R.ok (cut DZ EF EI))>=>λCm=>(((iR 1 kc>=>λHP=>(aU 4 kc>=>λIA=>R.ok (D.int 1)>=>λD0=>R.of (dH IA D0))>=>λD1=>nX HP D1)>=>λD2=>((iR 1 kc>=>λJW=>aU 4 kc>=>λJZ=>nX JW JZ)>=>λJU=>R.ok []>=>λJV=>R.ok (JU::JV))>=>λEH=>R.ok (D2::EH))>=>fit)>=>λEG=>fit (Cm++EG))>=>λC8=>(iR 1 kc>=>λGR=>((aU 4 kc>=>λN8=>R.ok (D.int 2)>=>λNR=>R.of (dH N8 NR))>=>vX)>=>λJX=>R.ok none>=>λJY=>R.ok (cut GR JX JY))>=>λC6=>fit (C8++C6))>=>λC7=>R.ok (Out.xm C7))else(R.ok (Out.nx kc))) λvP=>
 ((((iR 1 vP>=>λNX=>R.ok none>=>λNV=>(aU 4 vP>=>vX)>=>λNW=>R.ok (cut NX NV NW))>=>λN7=>(((iR 1 vP>=>λNY=>(aU 4 vP>=>λN4=>R.ok (D.int 1)>=>λN5=>R.of (dH N4 N5))>=>λLx=>nX NY Lx)>=>λNZ=>((iR 1 vP>=>λKb=>aU 4 vP>=>λB2=>nX Kb B2)>=>λN2=>((iR 1 vP>=>λz0=>(aU 4 vP>=>λxK=>R.ok (D.int 1)>=>λEY=>R.of (dH xK EY))>=>λzf=>nX z0 zf)>=>λsO=>R.ok []>=>λwu=>R.ok (sO::wu))>=>λN3=>R.ok (N2::N3))>=>λN6=>R.ok (NZ::N6))>=>fit)>=>λNU=>fit (N7++NU))>=>λNT=>(iR 1 vP>=>λEZ=>((aU 4 vP>=>λEU=>R.ok (D.int 3)>=>λER=>R.of (dH EU ER))>=>vX)>=>λEV=>R.ok none>=>λET=>R.ok (cut EZ EV ET))>=>λIB=>fit (NT++IB))>=>λNS=>R.ok (Out.xm NS))))))))
def qX:=Nm 3 5 GW
def nE:=λds=>R.ne (qX ds)
noncomputable def Di(env:DE):R Out:=
 (bF (((aU 0 env>=>λv3=>(aU 1 env>=>λv5=>(aU 2 env>=>λv7=>R.ok []>=>λv8=>R.ok (v7::v8))>=>λv6=>R.ok (v5::v6))>=>λv4=>R.ok (v3::v4))>=>bC)>=>λv2=>R.ok (Out.nx env)) λv1=>
 (bF ((fS 2 v1>=>λv11=>R.ok (D.int 0)>=>λkY=>mi v11 kY)>=>λv10=>R.ok (Out.nx (List.set v1 3 (Sl.val v10)))) λv9=>
 (bF ((fS 2 v9>=>λmZ=>R.ok (D.int 1)>=>λmq=>mi mZ mq)>=>λmY=>R.ok (Out.nx (List.set v9 4 (Sl.val mY)))) λjN=>
 (bF ((aU 3 jN>=>λoK=>R.ok (D.str "out")>=>λv20=>R.of (j9 oK v20)>=>cK)>=>λmW=>if mW=true then((((R.ok (D.str "in")>=>λj7=>(fS 4 jN>=>λpT=>((iR 1 jN>=>λlR=>aU 4 jN>=>λmX=>nX lR mX)>=>λpV=>R.ok []>=>λoM=>R.ok (pV::oM))>=>λm5=>R.ok (pT::m5))>=>λoE=>R.ok (j7::oE))>=>fit)>=>λds=>R.ok (D.tup ds))>=>λpU=>R.ok (Out.rt pU))else(R.ok (Out.nx jN))) λiX=>
 (bF ((aU 3 iX>=>λkc=>R.ok (D.str "in")>=>λqR=>R.of (j9 kc qR)>=>cK)>=>λuc=>if uc=true then((((R.ok (D.str "out")>=>λsX=>(fS 4 iX>=>λue=>R.ok []>=>λuf=>R.ok (ue::uf))>=>λsY=>R.ok (sX::sY))>=>fit)>=>λds=>R.ok (D.tup ds))>=>λud=>R.ok (Out.rt ud))else(R.ok (Out.nx iX))) λv30=>
 ((((fS 3 v30>=>λsM=>(fS 4 v30>=>λvj=>R.ok []>=>λsN=>R.ok (vj::sN))>=>λvQ=>R.ok (sM::vQ))>=>fit)>=>λds=>R.ok (D.tup ds))>=>λsZ=>R.ok (Out.rt sZ)))))))
def vv:=Yc 3 5 Di
def Dj:=λds=>R.ne (vv ds)
end DL
namespace DL.oh
open PySem PySem.Spec PyProof.Rows L2 DL
def top(i:Nat):aB:=PySem.Challenge.pw_braidcomb_k82_refused_changes_nothing.main.body.getD i (.Pass ⟨0,0,0,0⟩)
abbrev qY:aB:=top 15
def xN:bh ["n","k"] ["n","k"] (az qY):=wg
abbrev zk:aB:=top 16
def xr:bh ["n","word","k"] ["n","word"] (az zk):=wg
abbrev tE:aB:=top 18
def zm:bh ["word","p","many"] ["word","p","many"] (az tE):=wg
abbrev zo:aB:=top 19
def Dk:bh ["word","p"] ["word","p"] (az zo):=wg
abbrev AD:aB:=top 20
def E4:bh ["n","word","p","k"] ["n","word","p","k"] (az AD):=wg
abbrev zp:aB:=top 21
def Dl:bh ["word","p"] ["word","p"] (az zp):=wg
abbrev xt:aB:=top 22
def B3:bh ["word","p"] ["word","p"] (az xt):=wg
abbrev qZ:aB:=top 23
def lh:bh ["n","word","move","name","p"] ["n","word","move"] (az qZ):=wg
abbrev mz:aB:=top 24
def sQ:bh ["n","word","move"] ["n","word","move"] (az mz):=wg
abbrev Dm:aB:=top 25
def wx:bh ["n","word","move","name","p"] ["n","word","move"] (az Dm):=wg
abbrev pW:aB:=top 26
def oi:bh ["n","word","move","name","p"] ["n","word","move"] (az pW):=wg
abbrev xu:aB:=top 30
def B4:bh ["_law_cell","_law_k","_law_factor"] ["_law_cell","_law_k","_law_factor"] (az xu):=wg
abbrev qq:aB:=top 31
def wy:bh ["_law_script","_law_k"] ["_law_script","_law_k"] (az qq):=wg
abbrev qr:aB:=top 32
def oR:bh ["_law_seed","_law_least","_law_most"] ["_law_seed","_law_least","_law_most"] (az qr):=wg
abbrev oU:aB:=top 33
def nF:bh ["_law_number_here","_law_n","_law_k"] ["_law_number_here","_law_n"] (az oU):=wg
abbrev tH:aB:=top 34
def mB:bh ["_law_number_here","_law_n","_law_k","_law_other"] ["_law_number_here","_law_n"] (az tH):=wg
abbrev tJ:aB:=top 35
def g9:bh ["_law_cells","_law_n","_law_most","_law_word","_law_k","_law_cell"] ["_law_cells","_law_n","_law_most"] (az tJ):=wg
abbrev vx:aB:=top 36
def tK:bh ["_law_word","_law_deed","_law_p"] ["_law_word","_law_deed"] (az vx):=wg
abbrev xw:aB:=top 37
def lS:bh ["_law_word","_law_n","_law_deed","_law_x","_law_p","_law_here"] ["_law_word","_law_n","_law_deed"] (az xw):=wg
abbrev q8:aB:=top 38
def xO:bh ["_law_x"] ["_law_x"] (az q8):=wg
abbrev tM:aB:=top 39
def gC:bh ["_law_found","_law_due_here","_law_k"] ["_law_found","_law_due_here"] (az tM):=wg
abbrev qt:aB:=top 40
def dB:bh ["_law_loom","_law_kind","_law_part","_law_caught","e"] ["_law_loom","_law_kind","_law_part"] (az qt):=wg
abbrev qu:aB:=top 41
def dC:bh ["_law_n","_law_word","_law_number_here","_law_far","_law_kind","_law_more","_law_p","_law_bad","_law_spots"] ["_law_n","_law_word","_law_number_here","_law_far"] (az qu):=wg
abbrev q9:aB:=top 42
def B5:bh ["_law_n","_law_word","_law_deed"] ["_law_n","_law_word","_law_deed"] (az q9):=wg
abbrev rf:aB:=top 43
def xP:bh ["_law_word","_law_deed"] ["_law_word","_law_deed"] (az rf):=wg
abbrev nG:aB:=top 44
def mC:bh ["_law_loom","_law_word","_law_many"] ["_law_loom","_law_word"] (az nG):=wg
abbrev K8:aB:=top 45
def iD:bh ["_law_script","_law_seed","_law_n","_law_far","_law_many","_law_loom","_law_past","_law_k","_law_cell","_law_word","_law_deed","_law_due_here","_law_at"] ["_law_script"] (az K8):=wg
set_option genInjectivity false
set_option genSizeOf false
structure Tb(K:aj)(mg:Str->Option ah) where
 i5:ae
 i6:aL
 kH:Df K mg "is_crossing" qY ["n","k"] i5 i6
 l6:ae
 l7:aL
 jr:Df K mg "checked" zk ["n","word"] l6 l7
 gG:ae
 gH:aL
 iF:Df K mg "has_places" tE ["word","p","many"] gG gH
 sj:ae
 sr:aL
 wz:Df K mg "can_out" zo ["word","p"] sj sr
 vz:ae
 vA:aL
 zq:Df K mg "can_in" AD ["n","word","p","k"] vz vA
 sy:ae
 sC:aL
 wA:Df K mg "can_far" zp ["word","p"] sy sC
 pX:ae
 pY:aL
 ui:Df K mg "can_near" xt ["word","p"] pX pY
 kI:ae
 kJ:aL
 om:Df K mg "can_be_done" qZ ["n","word","move"] kI kJ
 dO:ae
 dP:aL
 dQ:Df K mg "refuse_undoable" mz ["n","word","move"] dO dP
 sE:ae
 sF:aL
 nH:Df K mg "moved" Dm ["n","word","move"] sE sF
 jt:ae
 ju:aL
 jv:Df K mg "move_back" pW ["n","word","move"] jt ju
 mE:ae
 mG:aL
 pZ:Df K mg "_law_mix" xu ["_law_cell","_law_k","_law_factor"] mE mG
 jQ:ae
 jR:aL
 jS:Df K mg "_law_cell_at" qq ["_law_script","_law_k"] jQ jR
 jT:ae
 jU:aL
 mH:Df K mg "_law_strings" qr ["_law_seed","_law_least","_law_most"] jT jU
 jf:ae
 jg:aL
 lj:Df K mg "_law_crossing" oU ["_law_number_here","_law_n"] jf jg
 lT:ae
 lU:aL
 p4:Df K mg "_law_piece" tH ["_law_number_here","_law_n"] lT lU
 lV:ae
 lW:aL
 p5:Df K mg "_law_drawn" tJ ["_law_cells","_law_n","_law_most"] lV lW
 nI:ae
 nJ:aL
 rg:Df K mg "_law_done" vx ["_law_word","_law_deed"] nI nJ
 p6:ae
 p7:aL
 uj:Df K mg "_law_can" xw ["_law_word","_law_n","_law_deed"] p6 p7
 gR:ae
 gS:aL
 i7:Df K mg "_law_number" q8 ["_law_x"] gR gS
 gb:ae
 gf:aL
 gj:Df K mg "_law_equal" tM ["_law_found","_law_due_here"] gb gf
 fJ:ae
 fK:aL
 eQ:Df K mg "_law_refused" qt ["_law_loom","_law_kind","_law_part"] fJ fK
 jV:ae
 jW:aL
 mJ:Df K mg "_law_deed_by" qu ["_law_n","_law_word","_law_number_here","_law_far"] jV jW
 p8:ae
 p9:aL
 uk:Df K mg "_law_due" q9 ["_law_n","_law_word","_law_deed"] p8 p9
 kK:ae
 kL:aL
 ou:Df K mg "_law_behind" rf ["_law_word","_law_deed"] kK kL
 iG:ae
 iH:aL
 ko:Df K mg "_law_made_good" nG ["_law_loom","_law_word"] iG iH
 K9:ae
 GX:aL
 Qf:Df K mg "law" K8 ["_law_script"] K9 GX
 jX:mg "ValueError"=none
 oV:mg "abs"=none
 E5:mg "bool"=none
 rh:mg "enumerate"=none
 AE:mg "int"=none
 aH:mg "isinstance"=none
 fL:mg "len"=none
 ri:mg "list"=none
 Qg:mg "max"=none
 vB:mg "range"=none
 xx:mg "str"=none
 nK:mg "tuple"=none
 nM:Tok
 nN:mg "FEWEST_STRINGS"=aa (.int 1 nM)
 qv:Tok
 qw:mg "MOST_STRINGS"=aa (.int 7 qv)
 qb:ae
 oy:mg "BadPicture"=aa (.ref qb)
 wB:ae
 um:mg "BadText"=aa (.ref wB)
 vC:ae
 z8:mg "BraidError"=aa (.ref vC)
 zr:ae
 wC:mg "NoForm"=aa (.ref zr)
 vD:ae
 oW:mg "NoMove"=aa (.ref vD)
 B6:ae
 zt:mg "NoRow"=aa (.ref B6)
 uo:ae
 rm:mg "NoString"=aa (.ref uo)
 vE:ae
 oX:mg "NoWord"=aa (.ref vE)
 wD:ae
 uq:mg "TooMany"=aa (.ref wD)
 zu:ae
 wF:mg "Unlike"=aa (.ref zu)
 wG:Xc K mg "NoMove" vD
 wH:Xc K mg "NoWord" vE
 mK:ZW K mg "BraidError" ["NoMove","NoWord"]
 oY:Tv K ["NoMove","NoWord"] "NoMove" (.ref vD)
 oZ:Tv K ["NoMove","NoWord"] "NoWord" (.ref vE)
 i8:Tv K ["NoMove","NoWord"] "ValueError" (.type "ValueError")
 bI:Ve K ["NoMove","NoWord"] ["BadPicture","BadText","NoForm","NoRow","NoString","TooMany","Unlike"] [qb,wB,zr,B6,uo,wD,zu]
set_option genInjectivity true
set_option genSizeOf true
end DL.oh
namespace DL.H
open PySem PySem.W L2
noncomputable section
def vi(i:Int)(t:Nat):ah:=.int i t
def vs(s:String)(t:Nat):ah:=.str (cZ s) t
def vr(a:Nat):ah:=.ref a
def vy(s:String):ah:=.type s
def vb(s:String):ah:=.builtin s
def vn:ah:=.none
def vt:ah:=.bool true
def vf:ah:=.bool false
def pl:Data:=.plain
def ob(c:ah)(d:Data)(s:List (Option ah)):Obj:=⟨c,none,d,⟨s⟩⟩
def en(P:jI)(x:String)(t:Nat)(v:ah):A4:=⟨PyData.keyHash P (cZ x),.str (cZ x) t,v⟩
def cd(n:String)(b m:List ah)(s:ae)(q:String)(hd:Bool)(sn:List Str)(su:List ah)(ab:Bool)(c:Option Bool)(de:Bool):ClassData:=⟨cZ n,b,m,s,cZ q,hd,sn,su,ab,c,de⟩
def E:Obj:=ob (vy "tuple") (.seq ⟨[]⟩ 0) []
def F:Obj:=ob vn (.fields ⟨[]⟩) []
def Z:String:="/claim/cut.py"
def nO(s:aB):Str:=match s with|.FunctionDef n _ _ _ _ _ _ _ _ _=>n|_=>FU
def lO(s:aB):Nat:=match s with|.FunctionDef _ _ _ _ _ _ _ _ _ p=>p.line|_=>0
def tf(s:aB)(q:Str):Obj:=⟨.none,none,.func {name:=nO s,qualname:=q,params:=gZ s,body:=.stmts (dm s),scope:=az s,globals:=0,closure:=[],defaults:=.none,kwdefaults:=.none},⟨[]⟩⟩
def hf(n q:Str)(s:aB)(m:ah)(c:Nat):Obj:=⟨.type "function",none,.func (fnOf n q (gZ s) (dm s) (az s) .none .none .none m none (.ref c) .none),⟨[]⟩⟩
def cf(n q:Str)(t l k:Nat)(f:ah)(a b:Nat)(x y z:ah)(u:Nat):Obj:=ob (vy "code") (.fields ⟨[.str n t,.str q (t+1),vs Z (t+2),.int l 0,.int k 0,vi 0 0,vi 0 0,f,vr a,.bool (f !=vi 0 0),vi 181 0,vr b,vn,x,y,z,.int u 0,.int l 0,vs Z (u+1)]⟩) []
def tu:List String->Nat->List ah
 |[],_=>[]
 |x::l,t=>vs x t::tu l (t+1)
def Og(s:aB)(q:Str)(a t:Nat)(m:ah)(ns:List String):List Obj:=[E,F,ob (vy "tuple") (.seq ⟨tu ns (t+3)⟩ 0) [],E,tf s q,cf (nO s) q t (lO s) (gZ s).args.length (vi 3 0) a (a+1) (vr (a+2)) (vr (a+3)) (vr (a+4)) (t+3+ns.length),hf (nO s) q s m (a+5)]
def fb5(s:aB)(q:Str)(a t:Nat)(m:ah):List Obj:=[E,F,tf s q,cf (nO s) q t (lO s) (gZ s).args.length (vi 3 0) a (a+1) vn vn (vr (a+2)) (t+3),hf (nO s) q s m (a+3)]
noncomputable def xb(P:jI)(n:String)(a t:Nat)(m:ah)(b:Nat)(l:Nat):List Obj:=
 [ob (vy "tuple") (.seq ⟨[vr b]⟩ 0) [],ob (vy "builtin_function_or_method") (.fields ⟨[vb "type.__prepare__",vy "type"]⟩) [],
  ob (vy "dict") (.dict ⟨[en P "__module__" (t+5) m,en P "__qualname__" (t+7) (vs n (t+6)),en P "__firstlineno__" (t+9) (.int l (t+8)),en P "__static_attributes__" (t+10) (vr (a+7))]⟩ 4) [],E,F,
  cf (cZ n) (cZ n) t l 0 (vi 0 0) (a+3) (a+4) vn vn vn (t+3),ob (vy "frame") pl [aa (vr (a+5)),aa (vr 3),aa (vr (a+2)),none,aa m,none,aa (vr 0)],E,
  ob (vy "dict") (.dict ⟨[en P "__module__" (t+5) m,en P "__firstlineno__" (t+9) (.int l (t+8)),en P "__static_attributes__" (t+10) (vr (a+7)),en P "__doc__" (t+11) vn]⟩ 2) [],
  ob (vy "type") (.cls (cd n [vr b] [vr (a+9),vr b,vy "ValueError",vy "Exception",vy "BaseException",vy "object"] (a+8) n true [] [] false none false)) [aa (vr a),none,aa (vs n (t-2)),aa (vs n (t+6)),aa (vb "ValueError.__new__"),aa vt],
  ob (vy "super") (.fields ⟨[vr (a+9),vr (a+9),vr (a+9)]⟩) [],ob (vy "builtin_function_or_method") (.fields ⟨[vb "object.__init_subclass__",vr (a+9)]⟩) []]
def sp:List Obj->List Obj×List Obj
 |[]=>([],[])
 |x::l=>(x::(sp l).2,(sp l).1)
def bt:Nat->List Obj->BT
 |0,_=>.nil
 |_+1,[]=>.nil
 |n+1,x::l=>.node x (bt n (sp l).1) (bt n (sp l).2)
end
end DL.H
namespace DL.oh.H
open PySem PySem.W DL.H L2
noncomputable section
abbrev pw:aO:=PySem.Challenge.pw_braidcomb_k82_refused_changes_nothing
abbrev T(i:Nat):aB:=DL.oh.top i
def J(i j:Nat):aB:=match T i with|.ClassDef _ _ _ b _ _ _ _ _ _ _=>b.getD j (.Pass ⟨0,0,0,0⟩)|s=>s
noncomputable def M3(P:jI):List A4:=[en P "__doc__" 166 vn,en P "__package__" 167 vn,en P "__loader__" 168 (vb "__main__.__loader__#opaque"),en P "__spec__" 169 vn,en P "__annotations__" 170 (vr 6),en P "__builtins__" 171 (vr 4),en P "__file__" 173 (vs "/claim/cut.py" 172),en P "__cached__" 174 vn,en P "_wall" 193 (vr 21),en P "BraidError" 213 (vr 31),en P "NoWord" 229 (vr 44),en P "BadText" 245 (vr 56),en P "NoMove" 261 (vr 68),en P "NoRow" 277 (vr 80),en P "NoForm" 293 (vr 92),en P "Unlike" 309 (vr 104),en P "NoString" 325 (vr 116),en P "BadPicture" 341 (vr 128),en P "TooMany" 357 (vr 140),en P "FEWEST_STRINGS" 361 (vi 1 360),en P "MOST_STRINGS" 363 (vi 7 362),en P "is_crossing" 371 (vr 149),en P "checked" 380 (vr 156),en P "has_places" 391 (vr 163),en P "can_out" 399 (vr 170),en P "can_in" 409 (vr 177),en P "can_far" 417 (vr 184),en P "can_near" 425 (vr 191),en P "can_be_done" 436 (vr 198),en P "refuse_undoable" 445 (vr 205),en P "moved" 456 (vr 212),en P "move_back" 467 (vr 219),en P "Loom" 555 (vr 285),en P "_law_mix" 566 (vr 296),en P "_law_cell_at" 574 (vr 303),en P "_law_strings" 583 (vr 310),en P "_law_crossing" 592 (vr 317),en P "_law_piece" 602 (vr 324),en P "_law_drawn" 614 (vr 331),en P "_law_done" 623 (vr 338),en P "_law_can" 635 (vr 345),en P "_law_number" 642 (vr 352),en P "_law_equal" 651 (vr 359),en P "_law_refused" 662 (vr 366),en P "_law_deed_by" 677 (vr 373),en P "_law_due" 683 (vr 378),en P "_law_behind" 691 (vr 385),en P "_law_made_good" 700 (vr 392),en P "law" 719 (vr 399)]
def m3(P:jI)(v:ah)(k e:Nat):Obj:=ob (vy "dict") (.dict ⟨en P "__name__" 165 v::(M3 P).take k⟩ e) []
noncomputable def L12:List (Nat×Nat):=[(1,20),(5,27),(7,40),(9,52),(11,64),(13,76),(15,88),(17,100),(19,112),(21,124),(23,136),(28,148),(30,155),(38,162),(40,169),(42,176),(44,183),(46,190),(50,197),(60,204),(63,211),(74,218),(84,225),(130,295),(132,302),(136,309),(141,316),(146,323),(152,330),(158,337),(167,344),(188,351),(190,358),(207,365),(229,372),(244,377),(250,384),(256,391),(264,398)]
def Ly(k:Nat):Obj:=ob vn (.fields ⟨(L12.take k).flatMap λx=>[.int x.1 0,vi 0 0,vr x.2]⟩) []
def w0:ah:=vs "__main__" 164
def w1:ah:=vs "braidcomb.errors" 194
def w2:ah:=vs "braidcomb.words" 358
def w3:ah:=vs "braidcomb.moves" 381
def w4:ah:=vs "braidcomb.loom" 468
def w5:ah:=vs "law_braidcomb_k82_refused_changes_nothing" 556
def f7(i a t:Nat)(m:ah)(ns:List String):List Obj:=Og (T i) (nO (T i)) a t m ns
def f5(i a t:Nat)(m:ah):List Obj:=fb5 (T i) (nO (T i)) a t m
noncomputable def FL(P:jI):List Obj:=[boot_o_0 P,boot_o_1 P,boot_o_2 P,m3 P w5 49 50,boot_o_4 P,boot_o_5 P,boot_o_6 P,boot_o_7 P,boot_o_8 P,boot_o_9 P,boot_o_10 P]
 ++[E,(Ly 39),(ob (vy "code") (.fields ⟨[(vs "<module>" 182),(vs "<module>" 183),(vs "/claim/cut.py" 184),(vi 1 0),(vi 0 0),(vi 0 0),(vi 0 0),(vi 0 0),(vr 11),vf,(vi 181 0),(vr 12),vn,vn,vn,vn,(vi 185 0),(vi 1 0),(vs "/claim/cut.py" 186)]⟩) []),(ob (vy "frame") pl [(aa (vr 13)),(aa (vr 3)),(aa (vr 3)),none,(aa (vs "__main__" 164)),none,(aa (vr 0))])]
 ++f7 0 15 187 w0 ["k"]
 ++[(ob (vy "tuple") (.seq ⟨[(vy "ValueError")]⟩ 0) []),(ob (vy "builtin_function_or_method") (.fields ⟨[(vb "type.__prepare__"),(vy "type")]⟩) []),(ob (vy "dict") (.dict ⟨[(en P "__module__" 203 (vs "braidcomb.errors" 194)),(en P "__qualname__" 205 (vs "BraidError" 204)),(en P "__firstlineno__" 207 (vi 5 206)),(en P "__static_attributes__" 208 (vr 29))]⟩ 4) []),E,F,(ob (vy "code") (.fields ⟨[(vs "BraidError" 198),(vs "BraidError" 199),(vs "/claim/cut.py" 200),(vi 5 0),(vi 0 0),(vi 0 0),(vi 0 0),(vi 0 0),(vr 25),vf,(vi 181 0),(vr 26),vn,vn,vn,vn,(vi 201 0),(vi 5 0),(vs "/claim/cut.py" 202)]⟩) []),(ob (vy "frame") pl [(aa (vr 27)),(aa (vr 3)),(aa (vr 24)),none,(aa (vs "braidcomb.errors" 194)),none,(aa (vr 0))]),E,(ob (vy "dict") (.dict ⟨[(en P "__module__" 203 (vs "braidcomb.errors" 194)),(en P "__firstlineno__" 207 (vi 5 206)),(en P "__static_attributes__" 208 (vr 29)),(en P "__weakref__" 210 (vr 32)),(en P "__doc__" 211 vn)]⟩ 3) []),(ob (vy "type") (.cls (cd "BraidError" [(vy "ValueError")] [(vr 31),(vy "ValueError"),(vy "Exception"),(vy "BaseException"),(vy "object")] 30 "BraidError" true [] [(vr 44),(vr 56),(vr 68),(vr 80),(vr 92),(vr 104),(vr 116),(vr 128),(vr 140)] false none false)) [(aa (vr 22)),none,(aa (vs "BraidError" 196)),(aa (vs "BraidError" 204)),(aa (vb "ValueError.__new__")),(aa vt)]),(ob (vy "getset_descriptor") (.fields ⟨[(vs "__weakref__" 209),(vr 31),(vb "ExceptionGroup.__weakref__"),vn]⟩) []),(ob (vy "super") (.fields ⟨[(vr 31),(vr 31),(vr 31)]⟩) []),(ob (vy "builtin_function_or_method") (.fields ⟨[(vb "object.__init_subclass__"),(vr 31)]⟩) [])]
 ++xb P "NoWord" 35 216 w1 31 7
 ++xb P "BadText" 47 232 w1 31 9
 ++xb P "NoMove" 59 248 w1 31 11
 ++xb P "NoRow" 71 264 w1 31 13
 ++xb P "NoForm" 83 280 w1 31 15
 ++xb P "Unlike" 95 296 w1 31 17
 ++xb P "NoString" 107 312 w1 31 19
 ++xb P "BadPicture" 119 328 w1 31 21
 ++xb P "TooMany" 131 344 w1 31 23
 ++f7 15 143 364 w2 ["n","k"]
 ++f7 16 150 372 w2 ["n","word","k"]
 ++f7 18 157 383 w3 ["word","p","many"]
 ++f7 19 164 392 w3 ["word","p"]
 ++f7 20 171 400 w3 ["n","word","p","k"]
 ++f7 21 178 410 w3 ["word","p"]
 ++f7 22 185 418 w3 ["word","p"]
 ++f7 23 192 426 w3 ["n","word","move","name","p"]
 ++f7 24 199 437 w3 ["n","word","move"]
 ++f7 25 206 446 w3 ["n","word","move","name","p"]
 ++f7 26 213 457 w3 ["n","word","move","name","p"]
 ++[E,(ob (vy "builtin_function_or_method") (.fields ⟨[(vb "type.__prepare__"),(vy "type")]⟩) []),(ob (vy "dict") (.dict ⟨[(en P "__module__" 477 (vs "braidcomb.loom" 468)),(en P "__qualname__" 479 (vs "Loom" 478)),(en P "__firstlineno__" 481 (vi 84 480)),(en P "__init__" 489 (vr 233)),(en P "hang" 497 (vr 240)),(en P "drop" 506 (vr 247)),(en P "go" 515 (vr 254)),(en P "undo" 523 (vr 261)),(en P "now" 530 (vr 268)),(en P "form_now" 537 (vr 275)),(en P "rings_now" 544 (vr 282)),(en P "__static_attributes__" 548 (vr 283))]⟩ 12) []),E,(ob vn (.fields ⟨[(vi 86 0),(vi 4 0),(vr 232),(vi 92 0),(vi 4 0),(vr 239),(vi 97 0),(vi 4 0),(vr 246),(vi 104 0),(vi 4 0),(vr 253),(vi 109 0),(vi 4 0),(vr 260),(vi 121 0),(vi 4 0),(vr 267),(vi 124 0),(vi 4 0),(vr 274),(vi 127 0),(vi 4 0),(vr 281)]⟩) []),(ob (vy "code") (.fields ⟨[(vs "Loom" 472),(vs "Loom" 473),(vs "/claim/cut.py" 474),(vi 84 0),(vi 0 0),(vi 0 0),(vi 0 0),(vi 0 0),(vr 223),vf,(vi 181 0),(vr 224),vn,vn,vn,vn,(vi 475 0),(vi 84 0),(vs "/claim/cut.py" 476)]⟩) []),(ob (vy "frame") pl [(aa (vr 225)),(aa (vr 3)),(aa (vr 222)),none,(aa (vs "braidcomb.loom" 468)),none,(aa (vr 0))])]
 ++Og (J 28 0) "Loom.__init__" 227 482 w4 ["self","n"]
 ++Og (J 28 1) "Loom.hang" 234 490 w4 ["self","word"]
 ++Og (J 28 2) "Loom.drop" 241 498 w4 ["self","many","left"]
 ++Og (J 28 3) "Loom.go" 248 507 w4 ["self","move","back"]
 ++Og (J 28 4) "Loom.undo" 255 516 w4 ["self","back"]
 ++Og (J 28 5) "Loom.now" 262 524 w4 ["self"]
 ++Og (J 28 6) "Loom.form_now" 269 531 w4 ["self"]
 ++Og (J 28 7) "Loom.rings_now" 276 538 w4 ["self"]
 ++[(ob (vy "tuple") (.seq ⟨[(vs "backs" 545),(vs "held" 546),(vs "n" 547)]⟩ 0) []),(ob (vy "dict") (.dict ⟨[(en P "__module__" 477 w4),(en P "__firstlineno__" 481 (vi 84 480)),(en P "__init__" 489 (vr 233)),(en P "hang" 497 (vr 240)),(en P "drop" 506 (vr 247)),(en P "go" 515 (vr 254)),(en P "undo" 523 (vr 261)),(en P "now" 530 (vr 268)),(en P "form_now" 537 (vr 275)),(en P "rings_now" 544 (vr 282)),(en P "__static_attributes__" 548 (vr 283)),(en P "__dict__" 550 (vr 286)),(en P "__weakref__" 552 (vr 287)),(en P "__doc__" 553 vn)]⟩ 4) []),(ob (vy "type") (.cls (cd "Loom" [(vy "object")] [(vr 285),(vy "object")] 284 "Loom" true [] [] false none false)) [none,none,(aa (vs "Loom" 470)),(aa (vs "Loom" 478)),(aa (vb "object.__new__")),(aa vt)]),(ob (vy "getset_descriptor") (.fields ⟨[(vs "__dict__" 549),(vr 285),(vb "function.__dict__"),(vb "function.__dict__#set")]⟩) []),(ob (vy "getset_descriptor") (.fields ⟨[(vs "__weakref__" 551),(vr 285),(vb "ExceptionGroup.__weakref__"),vn]⟩) []),(ob (vy "super") (.fields ⟨[(vr 285),(vr 285),(vr 285)]⟩) []),(ob (vy "builtin_function_or_method") (.fields ⟨[(vb "object.__init_subclass__"),(vr 285)]⟩) [])]
 ++f7 30 290 558 w5 ["_law_cell","_law_k","_law_factor"]
 ++f7 31 297 567 w5 ["_law_script","_law_k"]
 ++f7 32 304 575 w5 ["_law_seed","_law_least","_law_most"]
 ++f7 33 311 584 w5 ["_law_number_here","_law_n","_law_k"]
 ++f7 34 318 593 w5 ["_law_number_here","_law_n","_law_k","_law_other"]
 ++f7 35 325 603 w5 ["_law_cells","_law_n","_law_most","_law_word","_law_k","_law_cell"]
 ++f7 36 332 615 w5 ["_law_word","_law_deed","_law_p"]
 ++f7 37 339 624 w5 ["_law_word","_law_n","_law_deed","_law_x","_law_p","_law_here"]
 ++f7 38 346 636 w5 ["_law_x"]
 ++f7 39 353 643 w5 ["_law_found","_law_due_here","_law_k"]
 ++f7 40 360 652 w5 ["_law_loom","_law_kind","_law_part","_law_caught","e"]
 ++f7 41 367 663 w5 ["_law_n","_law_word","_law_number_here","_law_far","_law_kind","_law_more","_law_p","_law_bad","_law_spots"]
 ++f5 42 374 678 w5
 ++f7 43 379 684 w5 ["_law_word","_law_deed"]
 ++f7 44 386 692 w5 ["_law_loom","_law_word","_law_many"]
 ++f7 45 393 701 w5 ["_law_script","_law_seed","_law_n","_law_far","_law_many","_law_loom","_law_past","_law_k","_law_cell","_law_word","_law_deed","_law_due_here","_law_at"]
def as:List ae:=2::3::(eR 389).map (·+11)
def K(P:jI):Frag:=as.map λa=>(a,(FL P).getD a E)
def q:aO:=view pw [0,2,3,4,5,6,7,8,9,10,11,13,14,15,16,18,19,20,21,22,23,24,25,26,28,30,31,32,33,34,35,36,37,38,39,40,41,42,43,44,45]
def env:Env:={scope:=pw.main.scope,locals:=mainNs,globals:=mainNs,cells:=[],code:=vr 13,frame:=aa 14}
def bd:List aB:=behindTheImports pw
abbrev cE:pK:=.body bd env
abbrev fr:List Frame:=[topFrame ⟨0,0,0,0⟩]
abbrev an:Option ah:=(aa (vr 6))
noncomputable def S(P:jI):Nat->List Obj
 |0=>(((FL P).take 15).set 12 (Ly 0)).set 3 (boot_o_3 P)
 |1=>((((FL P).take 47).set 3 (m3 P w1 11 12)).set 12 (Ly 3)).set 31 ((ob (vy "type") (.cls (cd "BraidError" [(vy "ValueError")] [(vr 31),(vy "ValueError"),(vy "Exception"),(vy "BaseException"),(vy "object")] 30 "BraidError" true [] [(vr 44)] false none false)) [(aa (vr 22)),none,(aa (vs "BraidError" 196)),(aa (vs "BraidError" 204)),(aa (vb "ValueError.__new__")),(aa vt)]))
 |2=>((((FL P).take 71).set 3 (m3 P w1 13 14)).set 12 (Ly 5)).set 31 ((ob (vy "type") (.cls (cd "BraidError" [(vy "ValueError")] [(vr 31),(vy "ValueError"),(vy "Exception"),(vy "BaseException"),(vy "object")] 30 "BraidError" true [] [(vr 44),(vr 56),(vr 68)] false none false)) [(aa (vr 22)),none,(aa (vs "BraidError" 196)),(aa (vs "BraidError" 204)),(aa (vb "ValueError.__new__")),(aa vt)]))
 |3=>((((FL P).take 95).set 3 (m3 P w1 15 16)).set 12 (Ly 7)).set 31 ((ob (vy "type") (.cls (cd "BraidError" [(vy "ValueError")] [(vr 31),(vy "ValueError"),(vy "Exception"),(vy "BaseException"),(vy "object")] 30 "BraidError" true [] [(vr 44),(vr 56),(vr 68),(vr 80),(vr 92)] false none false)) [(aa (vr 22)),none,(aa (vs "BraidError" 196)),(aa (vs "BraidError" 204)),(aa (vb "ValueError.__new__")),(aa vt)]))
 |4=>((((FL P).take 119).set 3 (m3 P w1 17 18)).set 12 (Ly 9)).set 31 ((ob (vy "type") (.cls (cd "BraidError" [(vy "ValueError")] [(vr 31),(vy "ValueError"),(vy "Exception"),(vy "BaseException"),(vy "object")] 30 "BraidError" true [] [(vr 44),(vr 56),(vr 68),(vr 80),(vr 92),(vr 104),(vr 116)] false none false)) [(aa (vr 22)),none,(aa (vs "BraidError" 196)),(aa (vs "BraidError" 204)),(aa (vb "ValueError.__new__")),(aa vt)]))
 |5=>(((FL P).take 143).set 3 (m3 P w2 20 21)).set 12 (Ly 11)
 |6=>(((FL P).take 220).set 3 (m3 P w4 32 33)).set 12 (Ly 22)
 |7=>(((FL P).take 290).set 3 (m3 P w4 33 34)).set 12 (Ly 23)
 |8=>(((FL P).take 386).set 3 (m3 P w5 47 48)).set 12 (Ly 37)
 |9=>(FL P).take 400
 |_=>[]
abbrev st(i n t:Nat)(w:aD)(os:fI):SharedT:=⟨bt 12 (S w.params i),n,(boot_heap w.params).life,⟨[]⟩,boot_drawn,t,os⟩
def pre(w:aD)(os:fI):topGo qc pw w 11 an 12 ⟨boot_heap w.params,⟨[]⟩,boot_drawn,boot_toks,os⟩ (topStub pw)=aa ((st 0 15 187 w os).abs,⟨denote qc cE,cE,⟨0,0,0,0⟩,fr⟩):=by kernel_rfl
def blk(w:aD)(os:fI):segRun qc pw w 11 an 1 1 (st 0 15 187 w os).abs (blockOf bd env cE ⟨0,0,0,0⟩ fr)=aa (.next,(st 0 15 187 w os).abs,cE,⟨0,0,0,0⟩):=by kernel_rfl
abbrev Pc(N i n t d k:Nat)(p:Pos)(n2 t2:Nat)(p2:Pos)(w:aD)(os:fI):Prop:=segRunT qc pw w 11 an 1 N (st i n t w os) (piecesOf ((bd.drop d).take k) env cE p fr)=aa (.next,st (i+1) n2 t2 w os,cE,p2)
def pc0(w:aD)(os:fI):Pc 438 0 15 187 0 4 ⟨0,0,0,0⟩ 47 230 ⟨7,0,8,8⟩ w os:=by kernel_rfl
def pc1(w:aD)(os:fI):Pc 427 1 47 230 4 2 ⟨7,0,8,8⟩ 71 262 ⟨11,0,12,8⟩ w os:=by kernel_rfl
def pc2(w:aD)(os:fI):Pc 427 2 71 262 6 2 ⟨11,0,12,8⟩ 95 294 ⟨15,0,16,8⟩ w os:=by kernel_rfl
def pc3(w:aD)(os:fI):Pc 427 3 95 294 8 2 ⟨15,0,16,8⟩ 119 326 ⟨19,0,20,8⟩ w os:=by kernel_rfl
def pc4(w:aD)(os:fI):Pc 445 4 119 326 10 4 ⟨19,0,20,8⟩ 143 362 ⟨26,0,26,14⟩ w os:=by kernel_rfl
def pc5(w:aD)(os:fI):Pc 372 5 143 362 14 14 ⟨26,0,26,14⟩ 220 470 ⟨83,0,83,8⟩ w os:=by kernel_rfl
def pc6(w:aD)(os:fI):Pc 448 6 220 470 28 1 ⟨83,0,83,8⟩ 290 556 ⟨84,0,128,16⟩ w os:=by kernel_rfl
def pc7(w:aD)(os:fI):Pc 450 7 290 556 29 15 ⟨84,0,128,16⟩ 386 692 ⟨250,0,255,45⟩ w os:=by kernel_rfl
def pc8(w:aD)(os:fI):Pc 73 8 386 692 44 2 ⟨250,0,255,45⟩ 400 720 ⟨264,0,289,62⟩ w os:=by kernel_rfl
def fin(w:aD)(os:fI):topRun qc pw w 11 an 2 (st 9 400 720 w os).abs (restOf [] env cE ⟨264,0,289,62⟩ fr)=aa (st 9 400 720 w os).abs:=by kernel_rfl
def cut:bd=((bd.drop 0).take 4++((bd.drop 4).take 2++((bd.drop 6).take 2++((bd.drop 8).take 2++((bd.drop 10).take 4++((bd.drop 14).take 14++((bd.drop 28).take 1++((bd.drop 29).take 15++((bd.drop 44).take 2++[]))))))))):=by kernel_rfl
def rest{tb:String->Option yh}{p:aO}{w:aD}{n₀ N:Nat}{ann:Option ah}{s r:ai}{b b':List aB}{e:Env}{c:pK}{ps:Pos}{B:List Frame}(h:b=b')(k:topRun tb p w n₀ ann N s (restOf b' e c ps B)=aa r):topRun tb p w n₀ ann N s (restOf b e c ps B)=aa r:=h▸k
def run(w:aD)(os:fI):topRun qc pw w 11 an (12+(1+(438+(427+(427+(427+(445+(372+(448+(450+(73+2))))))))))) ⟨boot_heap w.params,⟨[]⟩,boot_drawn,boot_toks,os⟩ (topStub pw)=aa (st 9 400 720 w os).abs:=go_top (pre w os) (piece_block (blk w os) (rest cut (piece_app (segRun_of (pc0 w os)) (piece_app (segRun_of (pc1 w os)) (piece_app (segRun_of (pc2 w os)) (piece_app (segRun_of (pc3 w os)) (piece_app (segRun_of (pc4 w os)) (piece_app (segRun_of (pc5 w os)) (piece_app (segRun_of (pc6 w os)) (piece_app (segRun_of (pc7 w os)) (piece_app (segRun_of (pc8 w os)) (fin w os))))))))))))
def lo:List Str:=[]
def hk:Hook:=kHook K as (λ_=>by kernel_rfl)
def Xt(s:ai):Bool:=xlAt q [] s&&recOk (OpenLaw.row PySem.Challenge.rw_braidcomb_k82_refused_changes_nothing).toRowW.records s
abbrev H1(P:jI):au:=absHeap (bt 12 (S P 9)) 400 (boot_heap P).life
def Vr(w:aD)(os:fI):(staticsOk (Oh pw.main.body) (boot_heap w.params) (H1 w.params)&&namesBound pw (H1 w.params)&&gensDone ⟨H1 w.params,⟨[]⟩,boot_drawn,720,os⟩&&laidKept (boot_heap w.params) (H1 w.params))=true:=by kernel_rfl
def Vs(w:aD)(os:fI):(openSeen q lo (Oh pw.main.body) Xt true ⟨H1 w.params,⟨[]⟩,boot_drawn,720,os⟩)=openGood q lo:=by kernel_rfl
def Vt(w:aD)(os:fI):(hk.obs ⟨H1 w.params,⟨[]⟩,boot_drawn,720,os⟩)=hk.val w:=by kernel_rfl
def o1:opening pw=plainProg pw.main.scope.names:=by kernel_rfl
def o2(s:ai):fenceModules? pw s=aa s:=by kernel_rfl
def o3:ble 600 7122=true:=by kernel_rfl
def op(w:aD):(fencedOpening qc pw w 7122).map (λs=>(s.heap,s.gens,s.drawn,s.toks))=aa (boot_heap w.params,⟨[]⟩,boot_drawn,boot_toks):=boot_open o1 o3 o2 w
def sz(w:aD):((boot_heap w.params).isNs bU&&(⟨[]⟩:Array GenState).size==0,(boot_heap w.params).objs.size,(boot_heap w.params).nsMap bU "__annotations__")=(true,11,an):=by kernel_rfl
def le:ble (12+(1+(438+(427+(427+(427+(445+(372+(448+(450+(73+2))))))))))) 7122=true:=by kernel_rfl
def ab(w:aD)(os:fI):aa (st 9 400 720 w os).abs=aa ⟨H1 w.params,⟨[]⟩,boot_drawn,720,os⟩:=by kernel_rfl
def run'(w:aD)(os:fI):topRun qc pw w 11 an (12+(1+(438+(427+(427+(427+(445+(372+(448+(450+(73+2))))))))))) ⟨boot_heap w.params,⟨[]⟩,boot_drawn,boot_toks,os⟩ (topStub pw)=aa ⟨H1 w.params,⟨[]⟩,boot_drawn,720,os⟩:=Eq.trans (run w os) (ab w os)
def left:LeftO pw q lo Xt hk.obs hk.val 7122 true:=
 @LeftO.of_pieces pw q lo Xt hk.α hk.obs hk.val 7122 true boot_heap H1 ⟨[]⟩ ⟨[]⟩ boot_drawn boot_drawn boot_toks 720 11 an (12+(1+(438+(427+(427+(427+(445+(372+(448+(450+(73+2))))))))))) op sz run' le (λw=>funext λos=>Prod.ext (Vr w os) (Prod.ext (Vs w os) (Vt w os)))
end
end DL.oh.H
namespace DL
open PySem PySem.Spec PyProof.Rows L2
def bK:((("out":Str))==(("out":Str)))=true:=by decide
def b5:((("out":Str))==(("in":Str)))=false:=by decide
def bL:((("out":Str))==(("far":Str)))=false:=by decide
def aZ:((("out":Str))==(("near":Str)))=false:=by decide
def b6:((("in":Str))==(("out":Str)))=false:=by decide
def cF:((("in":Str))==(("in":Str)))=true:=by decide
def b7:((("in":Str))==(("far":Str)))=false:=by decide
def bM:((("in":Str))==(("near":Str)))=false:=by decide
def bO:((("far":Str))==(("out":Str)))=false:=by decide
def b8:((("far":Str))==(("in":Str)))=false:=by decide
def bP:((("far":Str))==(("far":Str)))=true:=by decide
def bc:((("far":Str))==(("near":Str)))=false:=by decide
def bf:((("near":Str))==(("out":Str)))=false:=by decide
def bQ:((("near":Str))==(("in":Str)))=false:=by decide
def bg:((("near":Str))==(("far":Str)))=false:=by decide
def aR:((("near":Str))==(("near":Str)))=true:=by decide
def gI(w:List Int)(i:Int):Int:=(w[i.toNat]?).getD 0
def lD{w:List Int}{i:Int}(h:0<=i)(h2:i<(w.length:Int)):nA (cH w) i=aa (.int (gI w i)):=by rw[BE,pR h];unfold gI;rw[cQ (by omega)];rfl
def rn{w:List Int}{i:Int}(h:0<=i)(h2:i<(w.length:Int)):gI w i∈w:=by unfold gI;rw[cQ (by omega)];exact GY _
def i9(k:Int):Int:=if k<0 then-k else k
inductive Mv where
 |out (p:Int)|yG (p k:Int)|far (p:Int)|near (p:Int)
def Mv.d:Mv->D
 |.out p=>.tup [.str "out",.int p]
 |.yG p k=>.tup [.str "in",.int p,.int k]
 |.far p=>.tup [.str "far",.int p]
 |.near p=>.tup [.str "near",.int p]
def xy(w:List Int)(p m:Int):Bool:=decide (0<=p)&&decide (p+m<=(w.length:Int))
noncomputable def eg(n:Int)(w:List Int):Mv->Bool
 |.out p=>xy w p 2&&(gI w p== -gI w (p+1))
 |.yG p k=>xy w p 0&&(!(k==0)&&decide (i9 k<n))
 |.far p=>xy w p 2&&decide (2<=i9 (i9 (gI w p)-i9 (gI w (p+1))))
 |.near p=>xy w p 3&&(gI w p==gI w (p+2))&&(i9 (gI w p-gI w (p+1))==1)
noncomputable def doneF(w:List Int):Mv->List Int
 |.out p=>w.take p.toNat++w.drop (p+2).toNat
 |.yG p k=>w.take p.toNat++[k,-k]++w.drop p.toNat
 |.far p=>w.take p.toNat++[gI w (p+1),gI w p]++w.drop (p+2).toNat
 |.near p=>w.take p.toNat++[gI w (p+1),gI w p,gI w (p+1)]++w.drop (p+3).toNat
def sG(w:List Int)(p m:Int):dN [.lst (cH w),.int p,.int m]=.ok (.bl (xy w p m)):=by
 unfold dN vo xy;simp_all [cz]
 by_cases h:0<=p
 ·simp_all [h,decide_true,fQ]
 ·simp_all [h,decide_false,cY]
def zv{w:List Int}{p m:Int}(h:xy w p m=true):0<=p/\p+m<=(w.length:Int):=by unfold xy at h;simpa using h
def E6(w:List Int)(p:Int):oO [.lst (cH w),.int p]=.ok (.bl (xy w p 2&&(gI w p== -gI w (p+1)))):=by
 unfold oO AA;simp_all [sG];cases h:xy w p 2 with
 |false=>simp_all [cY]
 |true=>
  obtain⟨h1,h2⟩:=zv h;simp_all [fQ];rw[lD h1 (by omega)];simp_all;rw[lD (by omega) (by omega)];simp_all
def Dq(n k:Int):eI [.int n,.int k]=.ok (.bl (!(k==0)&&decide (i9 k<n))):=by
 unfold eI n8 i9;simp_all;cases h:(k==0)with
 |false=>simp_all [gJ,fQ]
 |true=>simp_all [cA,cY]
def HX(n:Int)(w:List Int)(p k:Int):qV [.int n,.lst (cH w),.int p,.int k]=.ok (.bl (xy w p 0&&(!(k==0)&&decide (i9 k<n)))):=by
 unfold qV Dh;simp_all [sG];cases h:xy w p 0 with
 |false=>simp_all [cY]
 |true=>simp_all [fQ,Dq]
def E7(w:List Int)(p:Int):oQ [.lst (cH w),.int p]=.ok (.bl (xy w p 2&&decide (2<=i9 (i9 (gI w p)-i9 (gI w (p+1)))))):=by
 unfold oQ AB i9;simp_all [sG];cases h:xy w p 2 with
 |false=>simp_all [cY]
 |true=>
  obtain⟨h1,h2⟩:=zv h;simp_all [fQ];rw[lD h1 (by omega)];simp_all;rw[lD (by omega) (by omega)];simp_all
def Dr(w:List Int)(p:Int):mw [.lst (cH w),.int p]=.ok (.bl (xy w p 3&&(gI w p==gI w (p+2))&&(i9 (gI w p-gI w (p+1))==1))):=by
 unfold mw zh i9;simp_all [sG];cases h:xy w p 3 with
 |false=>simp_all [cY,gJ]
 |true=>
  obtain⟨h1,h2⟩:=zv h;simp_all [fQ,cA];rw[lD h1 (by omega)];simp_all;rw[lD (by omega) (by omega)];simp_all;cases hq:(gI w p==gI w (p+2))with
  |false=>simp_all [cY,gJ]
  |true=>
   simp_all [fQ,cA];rw[lD h1 (by omega)];simp_all;rw[lD (by omega) (by omega)];simp_all
theorem d9(a b:D):nA [a,b] 0=aa a:=rfl
theorem ee(a b:D):nA [a,b] 1=aa b:=rfl
theorem fM(a b c:D):nA [a,b,c] 0=aa a:=rfl
theorem fN(a b c:D):nA [a,b,c] 1=aa b:=rfl
theorem fO(a b c:D):nA [a,b,c] 2=aa c:=rfl
def xA(n:Int)(w:List Int)(d:Mv):iZ [.int n,.lst (cH w),d.d]=.ok (.bl (eg n w d)):=by
 unfold iZ tw;cases d with
 |out p=>
  simp_all [Mv.d,d9,ee,fM,fN,fO,bK,b5,bL,aZ,b6,cF,b7,bM,bO,b8,bP,bc,bf,bQ,bg,aR,E6];rfl
 |yG p k=>
  simp_all [Mv.d,d9,ee,fM,fN,fO,bK,b5,bL,aZ,b6,cF,b7,bM,bO,b8,bP,bc,bf,bQ,bg,aR,HX];rfl
 |far p=>
  simp_all [Mv.d,d9,ee,fM,fN,fO,bK,b5,bL,aZ,b6,cF,b7,bM,bO,b8,bP,bc,bf,bQ,bg,aR,E7];rfl
 |near p=>
  simp_all [Mv.d,d9,ee,fM,fN,fO,bK,b5,bL,aZ,b6,cF,b7,bM,bO,b8,bP,bc,bf,bQ,bg,aR,Dr];rfl
def ur(n:Int)(w:List Int)(d:Mv):bC [.int n,.lst (cH w),d.d]=if eg n w d=true then .ok .non else .err "NoMove":=by
 unfold bC nC;cases h:eg n w d with
 |true=>simp_all [JG,xA,h,cA]
 |false=>simp_all [JG,xA,h,gJ,R.mh]
theorem zw(c:Str)(k:DE->R Out):bF (.err c) k=.err c:=rfl
def wI{n:Int}{w:List Int}{d:Mv}(h:eg n w d=true):(match d with
  |.out p=>0<=p/\p+2<=(w.length:Int)
  |.yG p _=>0<=p/\p<=(w.length:Int)
  |.far p=>0<=p/\p+2<=(w.length:Int)
  |.near p=>0<=p/\p+3<=(w.length:Int)):=by
 cases d with
 |out p=>
  simp -implicitDefEqProofs only [eg,dM]at h;exact zv h.1
 |yG p k=>
  simp -implicitDefEqProofs only [eg,dM]at h;have:=zv h.1;dsimp only;omega
 |far p=>
  simp -implicitDefEqProofs only [eg,dM]at h;exact zv h.1
 |near p=>
  simp -implicitDefEqProofs only [eg,dM]at h;exact zv h.1.1
theorem yH(a b:Int):[D.int a,D.int b]=cH [a,b]:=rfl
theorem AF(a b c:Int):[D.int a,D.int b,D.int c]=cH [a,b,c]:=rfl
def HY(n:Int)(w:List Int)(d:Mv)(hw:w.length<=1000)(h:eg n w d=true):qX [.int n,.lst (cH w),d.d]=.ok (cH (doneF w d)):=by
 have hp:=wI h;have hr:bC [.int n,.lst (cH w),d.d]=.ok .non:=by rw[ur,if_pos h]
 unfold qX GW;simp_all [Nm,hr];cases d with
 |out p=>
  dsimp only at hp;simp_all [Mv.d,d9,ee,fM,fN,fO,bK,b5,bL,aZ,b6,cF,b7,bM,bO,b8,bP,bc,bf,bQ,bg,aR,gz];rw[kX _ _ hp.1,iW _ _ (by omega),fP,fH (by rw[bz,cC,d7];omega)];simp_all [u7];rfl
 |yG p k=>
  dsimp only at hp;simp_all [Mv.d,d9,ee,fM,fN,fO,bK,b5,bL,aZ,b6,cF,b7,bM,bO,b8,bP,bc,bf,bQ,bg,aR,gz];rw[kX _ _ hp.1,iW _ _ hp.1,yH k (-k),fP,fH (by rw[bz,cC];simp;omega)];simp_all [fP];rw[fH (by rw[bz,bz,cC,d7];simp;omega)];simp_all [u7];rfl
 |far p=>
  dsimp only at hp;simp_all [Mv.d,d9,ee,fM,fN,fO,bK,b5,bL,aZ,b6,cF,b7,bM,bO,b8,bP,bc,bf,bQ,bg,aR,gz];rw[lD (by omega) (by omega)];simp_all;rw[lD (by omega) (by omega)];simp_all;rw[kX _ _ hp.1,iW _ _ (by omega),yH (gI w (p+1)) (gI w p),fP,fH (by rw[bz,cC];simp;omega)];simp_all [fP];rw[fH (by rw[bz,bz,cC,d7];simp;omega)];simp_all [u7];rfl
 |near p=>
  dsimp only at hp;simp_all [Mv.d,d9,ee,fM,fN,fO,bK,b5,bL,aZ,b6,cF,b7,bM,bO,b8,bP,bc,bf,bQ,bg,aR,gz];rw[lD (by omega) (by omega)];simp_all;rw[lD (by omega) (by omega)];simp_all;rw[kX _ _ hp.1,iW _ _ (by omega),AF (gI w (p+1)) (gI w p) (gI w (p+1)),fP,fH (by rw[bz,cC];simp;omega)];simp_all [fP];rw[fH (by rw[bz,bz,cC,d7];simp;omega)];simp_all [u7];rfl
def Ds(n:Int)(w:List Int)(d:Mv)(hw:w.length<=1000)(h:eg n w d=true):nE [.int n,.lst (cH w),d.d]=.ok (cH (doneF w d)):=by show R.ne (qX _)=_;rw[HY n w d hw h];rfl
def Oi(n:Int)(w:List Int)(d:Mv)(hw:w.length<=1000)(h:eg n w d=true):kM [.lst (cH w),d.d]=.ok (cH (doneF w d)):=by
 have hp:=wI h;unfold kM xq;simp_all;cases d with
 |out p=>
  dsimp only at hp;simp_all [Mv.d,d9,ee,fM,fN,fO,bK,b5,bL,aZ,b6,cF,b7,bM,bO,b8,bP,bc,bf,bQ,bg,aR,gz];rw[kX _ _ hp.1,iW _ _ (by omega),fP,fH (by rw[bz,cC,d7];omega)];simp_all [u7];rfl
 |yG p k=>
  dsimp only at hp;simp_all [Mv.d,d9,ee,fM,fN,fO,bK,b5,bL,aZ,b6,cF,b7,bM,bO,b8,bP,bc,bf,bQ,bg,aR,gz];rw[kX _ _ hp.1,iW _ _ hp.1,yH k (-k),fP,fH (by rw[bz,cC];simp;omega)];simp_all [fP];rw[fH (by rw[bz,bz,cC,d7];simp;omega)];simp_all [u7];rfl
 |far p=>
  dsimp only at hp;simp_all [Mv.d,d9,ee,fM,fN,fO,bK,b5,bL,aZ,b6,cF,b7,bM,bO,b8,bP,bc,bf,bQ,bg,aR,gz];rw[lD (by omega) (by omega)];simp_all;rw[lD (by omega) (by omega)];simp_all;rw[kX _ _ hp.1,iW _ _ (by omega),yH (gI w (p+1)) (gI w p),fP,fH (by rw[bz,cC];simp;omega)];simp_all [fP];rw[fH (by rw[bz,bz,cC,d7];simp;omega)];simp_all [u7];rfl
 |near p=>
  dsimp only at hp;simp_all [Mv.d,d9,ee,fM,fN,fO,bK,b5,bL,aZ,b6,cF,b7,bM,bO,b8,bP,bc,bf,bQ,bg,aR,gz];rw[lD (by omega) (by omega)];simp_all;rw[lD (by omega) (by omega)];simp_all;rw[kX _ _ hp.1,iW _ _ (by omega),AF (gI w (p+1)) (gI w p) (gI w (p+1)),fP,fH (by rw[bz,cC];simp;omega)];simp_all [fP];rw[fH (by rw[bz,bz,cC,d7];simp;omega)];simp_all [u7];rfl
def Dt{n:Int}{w:List Int}{d:Mv}(h:eg n w d=true):(doneF w d).length<=w.length+2/\((∀p k,d≠.yG p k)->(doneF w d).length<=w.length):=by
 have hp:=wI h;cases d with
 |out p=>
  dsimp only at hp;refine⟨?_,λ_=>?_⟩<;>(show(w.take p.toNat++w.drop (p+2).toNat).length<=_;rw[bz,cC,d7];omega)
 |yG p k=>
  dsimp only at hp;refine⟨?_,λhq=>absurd rfl (hq p k)⟩;show(w.take p.toNat++[k,-k]++w.drop p.toNat).length<=_;rw[bz,bz,cC,d7];simp;omega
 |far p=>
  dsimp only at hp;refine⟨?_,λ_=>?_⟩<;>(show(w.take p.toNat++[gI w (p+1),gI w p]++w.drop (p+2).toNat).length<=_;rw[bz,bz,cC,d7];simp;omega)
 |near p=>
  dsimp only at hp;refine⟨?_,λ_=>?_⟩<;>(show(w.take p.toNat++[gI w (p+1),gI w p,gI w (p+1)]++w.drop (p+3).toNat).length<=_;rw[bz,bz,cC,d7];simp;omega)
def Oj{n k:Int}(h1:(k==0)=false)(h2:i9 k<n):wq n k:=by
 unfold i9 at h2;unfold wq;have:k≠0:=by simpa using h1
 split at h2<;>omega
def Ol{n k:Int}(h:wq n k):wq n (-k):=by unfold wq at*;omega
def Om{n:Int}{w:List Int}{d:Mv}(hw:∀k∈w,wq n k)(h:eg n w d=true):∀k∈doneF w d,wq n k:=by
 have hp:=wI h;cases d with
 |out p=>
  intro k hk;rcases eU.mp (show k∈w.take p.toNat++w.drop (p+2).toNat from hk)with q|q
  ·exact hw k (yI q)
  ·exact hw k (B7 q)
 |yG p x=>
  intro k hk;have hx:wq n x:=by simp -implicitDefEqProofs only [eg,dM,BO,decide_eq_true_eq]at h;exact Oj h.2.1 h.2.2
  rcases eU.mp (show k∈w.take p.toNat++[x,-x]++w.drop p.toNat from hk)with q|q
  ·rcases eU.mp q with q|q
   ·exact hw k (yI q)
   ·simp at q
    rcases q with rfl|rfl
    ·exact hx
    ·exact Ol hx
  ·exact hw k (B7 q)
 |far p=>
  dsimp only at hp;intro k hk;rcases eU.mp (show k∈w.take p.toNat++[gI w (p+1),gI w p]++w.drop (p+2).toNat from hk)with q|q
  ·rcases eU.mp q with q|q
   ·exact hw k (yI q)
   ·simp at q
    rcases q with rfl|rfl
    ·exact hw _ (rn (by omega) (by omega))
    ·exact hw _ (rn (by omega) (by omega))
  ·exact hw k (B7 q)
 |near p=>
  dsimp only at hp;intro k hk;rcases eU.mp (show k∈w.take p.toNat++[gI w (p+1),gI w p,gI w (p+1)]++w.drop (p+3).toNat from hk)with q|q
  ·rcases eU.mp q with q|q
   ·exact hw k (yI q)
   ·simp at q
    rcases q with rfl|rfl|rfl
    ·exact hw _ (rn (by omega) (by omega))
    ·exact hw _ (rn (by omega) (by omega))
    ·exact hw _ (rn (by omega) (by omega))
  ·exact hw k (B7 q)
def Oo{w:List Int}{p i:Int}(hp:0<=p)(hi:0<=i/\i<3)(hl:p+i<(w.length:Int)):nA (cH ((w.drop p.toNat).take 3)) i=aa (.int (gI w (p+i))):=by rw[BE,pR hi.1];unfold gI;rw[List.getElem?_take,if_pos (by omega),List.getElem?_drop,show p.toNat+i.toNat=(p+i).toNat by omega,cQ (by omega)];rfl
def qx{ms cs:List Str}{n:Str}{b:Bool}(h:n∈ms)(hb:cs.any (sL · n)=b):qH ms cs (.exc n)=.ok (.bl b):=by rw[<-hb];exact if_pos h
theorem yJ:j8 "str" "str"=true:=rfl
theorem Oq:j8 "int" "int"=true:=rfl
theorem Ot:j8 "int" "bool"=false:=rfl
theorem yK:j8 "tuple" "tuple"=true:=rfl
theorem La(a b:D):JD (.tup [a,b]) (aa 1) none=.ok (.tup [b]):=rfl
theorem Vu(a b c:D):JD (.tup [a,b,c]) (aa 1) none=.ok (.tup [b,c]):=rfl
def lq{b:D->DE->R Out}{x:D}{xs:List D}{e e':DE}(h:b x e=.ok (.nx e')):iB b (x::xs) e=iB b xs e':=by rw[iB,h];rfl
def vG{b:D->DE->R Out}{e:DE}:iB b [] e=.ok (.nx e):=by rw[iB]
def zx(k:Int)(a b c d e f:Sl):n9 (.int k) [a,b,c,d,e,f]=.ok (.nx [a,b,c,.val (.int k),e,f]):=by unfold n9;simp_all [CT,sJ,Oq,Ot,cA]
def rq(w:List Int)(p:Int)(h:0<=p/\p<=(w.length:Int)):((((w.drop p.toNat).take ((p+3).toNat-p.toNat)).length:Nat):Int)=min 3 ((w.length:Int)-p):=by rw[cC,d7];omega
def mL{w:List Int}{p i:Int}(hp:0<=p)(hi:0<=i/\i<3)(hl:p+i<(w.length:Int)):nA (cH ((w.drop p.toNat).take ((p+3).toNat-p.toNat))) i=aa (.int (gI w (p+i))):=by rw[show(p+3).toNat-p.toNat=3 by omega];exact Oo hp hi hl
theorem c2:((2:Nat):Int)=2:=rfl
theorem c3:((3:Nat):Int)=3:=rfl
def uu:decide ((2:Int)<2)=false:=by decide
def uv:decide ((3:Int)<2)=false:=by decide
def uw:((2:Int)==3)=false:=by decide
def ux:((2:Int)==2)=true:=by decide
def uy:((3:Int)==3)=true:=by decide
def Lb(k:Int)(h:(k==0)=false):0<i9 k:=by
 have:k≠0:=by simpa using h
 unfold i9;split<;>omega
def dG{w:List Int}{p m:Int}(h:¬(0<=p/\p<=(w.length:Int)))(hm:0<=m):xy w p m=false:=by unfold xy;rw[Bool.and_eq_false_iff,decide_eq_false_iff_not,decide_eq_false_iff_not];omega
def B8{w:List Int}{p m:Int}(h:0<=p)(hm:p+m<=(w.length:Int)):xy w p m=true:=by unfold xy;rw[decide_eq_true h,decide_eq_true hm];rfl
def B9{w:List Int}{p m:Int}(hm:¬p+m<=(w.length:Int)):xy w p m=false:=by unfold xy;rw[decide_eq_false hm,Bool.and_false]
def SR(n:Int)(w:List Int)(d:Mv)(hn:n<=7)(hw:∀k∈w,wq n k):mr [.lst (cH w),.int n,d.d]=.ok (.bl (eg n w d)):=by
 unfold mr zg;cases d with
 |out p=>
  simp_all [Mv.d,d9,ee,fM,fN,fO,bK,b5,bL,aZ,b6,cF,b7,bM,bO,b8,bP,bc,bf,bQ,bg,aR,sJ,yK,yJ,cA,La,CU,c2,c3,uu,uv,uw,ux,uy];rw[lq (zx _ _ _ _ _ _ _),vG];simp_all [d9,ee,fM,fN,fO,bK,b5,bL,aZ,b6,cF,b7,bM,bO,b8,bP,bc,bf,bQ,bg,aR,cz,sJ,c2,c3,uu,uv,uw,ux,uy]
  by_cases h0:0<=p
  case neg=>
   have zy:p<0:=(by omega);simp_all [zy,decide_true,eg,dG (w:=w) (p:=p) (λz=>h0 z.1) (show(0:Int)<=2 by decide),dG (w:=w) (p:=p) (λz=>h0 z.1) (show(0:Int)<=0 by decide),dG (w:=w) (p:=p) (λz=>h0 z.1) (show(0:Int)<=3 by decide),cY]
  by_cases h1:p<=(w.length:Int)
  case neg=>
   have zy:¬p<0:=(by omega);have xp:(w.length:Int)<p:=(by omega);simp_all [cz,zy,xp,decide_true,decide_false,eg,dG (w:=w) (p:=p) (λz=>h1 z.2) (show(0:Int)<=2 by decide),dG (w:=w) (p:=p) (λz=>h1 z.2) (show(0:Int)<=0 by decide),dG (w:=w) (p:=p) (λz=>h1 z.2) (show(0:Int)<=3 by decide),cY]
  have zy:¬p<0:=by omega
  have xp:¬(w.length:Int)<p:=by omega
  simp_all only [zy,xp,decide_false];simp_all [d9,ee,fM,fN,fO,bK,b5,bL,aZ,b6,cF,b7,bM,bO,b8,bP,bc,bf,bQ,bg,aR,cz,sJ,c2,c3,uu,uv,uw,ux,uy,gz];rw[BJ _ _ _ h0 (by omega)];simp_all [d9,ee,fM,fN,fO,bK,b5,bL,aZ,b6,cF,b7,bM,bO,b8,bP,bc,bf,bQ,bg,aR,cz,c2,c3,uu,uv,uw,ux,uy,cA];rw[rq w p ⟨h0,h1⟩]
  by_cases h2:p+2<=(w.length:Int)
  ·have Eu:¬min 3 ((w.length:Int)-p)<2:=by omega
   simp_all [d9,ee,fM,fN,fO,bK,b5,bL,aZ,b6,cF,b7,bM,bO,b8,bP,bc,bf,bQ,bg,aR,Eu,decide_false];rw[mL h0 (by decide) (by omega)];simp_all;rw[mL h0 (by decide) (by omega)];simp_all [eg,B8 h0 h2,GZ,fQ]
  ·have Eu:min 3 ((w.length:Int)-p)<2:=by omega
   simp_all [Eu,decide_true,eg,B9 h2,cY]
 |yG p k=>
  simp_all [Mv.d,d9,ee,fM,fN,fO,bK,b5,bL,aZ,b6,cF,b7,bM,bO,b8,bP,bc,bf,bQ,bg,aR,sJ,yK,yJ,cA,Vu,CU,c2,c3,uu,uv,uw,ux,uy];rw[lq (zx _ _ _ _ _ _ _),lq (zx _ _ _ _ _ _ _),vG];simp_all [d9,ee,fM,fN,fO,bK,b5,bL,aZ,b6,cF,b7,bM,bO,b8,bP,bc,bf,bQ,bg,aR,cz,sJ,c2,c3,uu,uv,uw,ux,uy]
  by_cases h0:0<=p
  case neg=>
   have zy:p<0:=(by omega);simp_all [zy,decide_true,eg,dG (w:=w) (p:=p) (λz=>h0 z.1) (show(0:Int)<=2 by decide),dG (w:=w) (p:=p) (λz=>h0 z.1) (show(0:Int)<=0 by decide),dG (w:=w) (p:=p) (λz=>h0 z.1) (show(0:Int)<=3 by decide),cY]
  by_cases h1:p<=(w.length:Int)
  case neg=>
   have zy:¬p<0:=(by omega);have xp:(w.length:Int)<p:=(by omega);simp_all [cz,zy,xp,decide_true,decide_false,eg,dG (w:=w) (p:=p) (λz=>h1 z.2) (show(0:Int)<=2 by decide),dG (w:=w) (p:=p) (λz=>h1 z.2) (show(0:Int)<=0 by decide),dG (w:=w) (p:=p) (λz=>h1 z.2) (show(0:Int)<=3 by decide),cY]
  have zy:¬p<0:=by omega
  have xp:¬(w.length:Int)<p:=by omega
  simp_all only [zy,xp,decide_false];simp_all [d9,ee,fM,fN,fO,bK,b5,bL,aZ,b6,cF,b7,bM,bO,b8,bP,bc,bf,bQ,bg,aR,cz,sJ,c2,c3,uu,uv,uw,ux,uy,gz];have e1:eg n w (.yG p k)=(!(k==0)&&decide (i9 k<n)):=by simp_all only [eg,B8 (w:=w) (p:=p) (m:=0) h0 (by omega),fQ]
  rw[e1];unfold i9;cases hk:(k==0)with
  |false=>
   have:=Lb k hk;unfold i9 at this;simp_all [this,decide_true,gJ,fQ]
  |true=>
   have Je:k=0:=(by simpa using hk);subst Je;rfl
 |far p=>
  simp_all [Mv.d,d9,ee,fM,fN,fO,bK,b5,bL,aZ,b6,cF,b7,bM,bO,b8,bP,bc,bf,bQ,bg,aR,sJ,yK,yJ,cA,La,CU,c2,c3,uu,uv,uw,ux,uy];rw[lq (zx _ _ _ _ _ _ _),vG];simp_all [d9,ee,fM,fN,fO,bK,b5,bL,aZ,b6,cF,b7,bM,bO,b8,bP,bc,bf,bQ,bg,aR,cz,sJ,c2,c3,uu,uv,uw,ux,uy]
  by_cases h0:0<=p
  case neg=>
   have zy:p<0:=(by omega);simp_all [zy,decide_true,eg,dG (w:=w) (p:=p) (λz=>h0 z.1) (show(0:Int)<=2 by decide),dG (w:=w) (p:=p) (λz=>h0 z.1) (show(0:Int)<=0 by decide),dG (w:=w) (p:=p) (λz=>h0 z.1) (show(0:Int)<=3 by decide),cY]
  by_cases h1:p<=(w.length:Int)
  case neg=>
   have zy:¬p<0:=(by omega);have xp:(w.length:Int)<p:=(by omega);simp_all [cz,zy,xp,decide_true,decide_false,eg,dG (w:=w) (p:=p) (λz=>h1 z.2) (show(0:Int)<=2 by decide),dG (w:=w) (p:=p) (λz=>h1 z.2) (show(0:Int)<=0 by decide),dG (w:=w) (p:=p) (λz=>h1 z.2) (show(0:Int)<=3 by decide),cY]
  have zy:¬p<0:=by omega
  have xp:¬(w.length:Int)<p:=by omega
  simp_all only [zy,xp,decide_false];simp_all [d9,ee,fM,fN,fO,bK,b5,bL,aZ,b6,cF,b7,bM,bO,b8,bP,bc,bf,bQ,bg,aR,cz,sJ,c2,c3,uu,uv,uw,ux,uy,gz];rw[BJ _ _ _ h0 (by omega)];simp_all [d9,ee,fM,fN,fO,bK,b5,bL,aZ,b6,cF,b7,bM,bO,b8,bP,bc,bf,bQ,bg,aR,cz,c2,c3,uu,uv,uw,ux,uy,cA];rw[rq w p ⟨h0,h1⟩]
  by_cases h2:p+2<=(w.length:Int)
  ·have Eu:¬min 3 ((w.length:Int)-p)<2:=by omega
   simp_all [d9,ee,fM,fN,fO,bK,b5,bL,aZ,b6,cF,b7,bM,bO,b8,bP,bc,bf,bQ,bg,aR,Eu,decide_false];rw[mL h0 (by decide) (by omega)];simp_all;rw[mL h0 (by decide) (by omega)];simp_all [eg,B8 h0 h2,GZ,fQ,i9];congr 2
  ·have Eu:min 3 ((w.length:Int)-p)<2:=by omega
   simp_all [Eu,decide_true,eg,B9 h2,cY]
 |near p=>
  simp_all [Mv.d,d9,ee,fM,fN,fO,bK,b5,bL,aZ,b6,cF,b7,bM,bO,b8,bP,bc,bf,bQ,bg,aR,sJ,yK,yJ,cA,La,CU,c2,c3,uu,uv,uw,ux,uy];rw[lq (zx _ _ _ _ _ _ _),vG];simp_all [d9,ee,fM,fN,fO,bK,b5,bL,aZ,b6,cF,b7,bM,bO,b8,bP,bc,bf,bQ,bg,aR,cz,sJ,c2,c3,uu,uv,uw,ux,uy]
  by_cases h0:0<=p
  case neg=>
   have zy:p<0:=(by omega);simp_all [zy,decide_true,eg,dG (w:=w) (p:=p) (λz=>h0 z.1) (show(0:Int)<=2 by decide),dG (w:=w) (p:=p) (λz=>h0 z.1) (show(0:Int)<=0 by decide),dG (w:=w) (p:=p) (λz=>h0 z.1) (show(0:Int)<=3 by decide),cY]
  by_cases h1:p<=(w.length:Int)
  case neg=>
   have zy:¬p<0:=(by omega);have xp:(w.length:Int)<p:=(by omega);simp_all [cz,zy,xp,decide_true,decide_false,eg,dG (w:=w) (p:=p) (λz=>h1 z.2) (show(0:Int)<=2 by decide),dG (w:=w) (p:=p) (λz=>h1 z.2) (show(0:Int)<=0 by decide),dG (w:=w) (p:=p) (λz=>h1 z.2) (show(0:Int)<=3 by decide),cY]
  have zy:¬p<0:=by omega
  have xp:¬(w.length:Int)<p:=by omega
  simp_all only [zy,xp,decide_false];simp_all [d9,ee,fM,fN,fO,bK,b5,bL,aZ,b6,cF,b7,bM,bO,b8,bP,bc,bf,bQ,bg,aR,cz,sJ,c2,c3,uu,uv,uw,ux,uy,gz];rw[BJ _ _ _ h0 (by omega)];simp_all [d9,ee,fM,fN,fO,bK,b5,bL,aZ,b6,cF,b7,bM,bO,b8,bP,bc,bf,bQ,bg,aR,cz,c2,c3,uu,uv,uw,ux,uy,cA];rw[rq w p ⟨h0,h1⟩]
  by_cases h3:p+3<=(w.length:Int)
  ·have Eu:¬min 3 ((w.length:Int)-p)<2:=by omega
   have Y3:¬min 3 ((w.length:Int)-p)<3:=(by omega);simp_all [d9,ee,fM,fN,fO,bK,b5,bL,aZ,b6,cF,b7,bM,bO,b8,bP,bc,bf,bQ,bg,aR,Eu,Y3,decide_false,cz,rq w p ⟨h0,h1⟩,cA];have a0:=mL (w:=w) (i:=0) h0 (by decide) (by omega);have a1:=mL (w:=w) (i:=1) h0 (by decide) (by omega);have a2:=mL (w:=w) (i:=2) h0 (by decide) (by omega);have b0:=hw _ (rn (w:=w) (i:=p) h0 (by omega));have b1:=hw _ (rn (w:=w) (i:=p+1) (by omega) (by omega));rw[GZ]at a0;simp_all [a0,a1,a2];have ec:eg n w (.near p)=((gI w p==gI w (p+2))&&(i9 (gI w p-gI w (p+1))==1)):=by simp_all only [eg,B8 h0 h3,fQ]
   rw[ec];unfold wq at b0 b1;generalize gI w p=x at b0;generalize gI w (p+1)=y at b1;cases (x==gI w (p+2))with
   |false=>simp_all [cY]
   |true=>
    rw[BD x y (.inl (by omega))];simp_all [fQ]
    by_cases hp:0<x*y
    ·simp_all [hp,decide_true,i9]
    ·have hne:(i9 (x-y)==1)=false:=by
      have:i9 (x-y)≠1:=λz=>by
       unfold i9 at z;rcases Ou b0.1 with hx|hx<;>rcases Ou b1.1 with hy|hy
       ·exact hp (Int.mul_pos_of_neg_of_neg hx hy)
       ·split at z<;>omega
       ·split at z<;>omega
       ·exact hp (Int.mul_pos hx hy)
      simpa using this
     simp_all [hp,decide_false,hne]
  ·by_cases h2:p+2<=(w.length:Int)
   ·have Eu:¬min 3 ((w.length:Int)-p)<2:=by omega
    have Y3:min 3 ((w.length:Int)-p)<3:=(by omega);simp_all [d9,ee,fM,fN,fO,bK,b5,bL,aZ,b6,cF,b7,bM,bO,b8,bP,bc,bf,bQ,bg,aR,Eu,Y3,decide_false,decide_true,cz,rq w p ⟨h0,h1⟩,cA,eg,B9 h3,cY]
   ·have Eu:min 3 ((w.length:Int)-p)<2:=by omega
    simp_all [Eu,decide_true,eg,B9 h3,cY]
def Qh(w:List Int):Mv->Mv
 |.out p=>.yG p (gI w p)
 |.yG p _=>.out p
 |.far p=>.far p
 |.near p=>.near p
def qd{a b:List Int}{i:Int}(h:(a.length:Int)<=i):gI (a++b) i=gI b (i-a.length):=by unfold gI;rw[gF (by omega)];congr 2;omega
def tk{w:List Int}{p:Int}(h:0<=p/\p<=(w.length:Int)):((w.take p.toNat).length:Int)=p:=by rw[cC];omega
def E8{w:List Int}{p:Int}(h:0<=p/\p+2<=(w.length:Int)):w=w.take p.toNat++gI w p::gI w (p+1)::w.drop (p+2).toNat:=by
 have e1:w.drop p.toNat=gI w p::w.drop (p.toNat+1):=by rw[yt (by omega)];congr 1;unfold gI;rw[cQ (by omega)];rfl
 have e2:w.drop (p.toNat+1)=gI w (p+1)::w.drop (p+2).toNat:=by
  rw[yt (by omega)];congr 1
  ·unfold gI
   rw[show(p+1).toNat=p.toNat+1 by omega,cQ (by omega)];rfl
  ·congr 1;omega
 rw[<-e2,<-e1,G0]
def SS{w:List Int}{p:Int}(h:0<=p/\p+3<=(w.length:Int)):w=w.take p.toNat++gI w p::gI w (p+1)::gI w (p+2)::w.drop (p+3).toNat:=by
 have e1:=E8 (w:=w) (p:=p) (by omega);have e2:w.drop (p+2).toNat=gI w (p+2)::w.drop (p+3).toNat:=by
  rw[yt (by omega)];congr 1
  ·unfold gI
   rw[cQ (by omega)];rfl
  ·congr 1;omega
 rw[<-e2];exact e1
def vH{a b:List Int}{k:Nat}(h:a.length=k):(a++b).drop k=b:=by subst h;exact List.drop_left
def vI{a b:List Int}{k:Nat}(h:a.length=k):(a++b).take k=a:=by subst h;exact Ov
def Lc{n:Int}{w:List Int}{d:Mv}(hw:∀k∈w,wq n k)(h:eg n w d=true):eg n (doneF w d) (Qh w d)=true/\doneF (doneF w d) (Qh w d)=w/\Qh (doneF w d) (Qh w d)=d:=by
 have hp:=wI h;cases d with
 |out p=>
  dsimp only at hp;simp -implicitDefEqProofs only [eg,dM,beq_iff_eq]at h;have ht:=tk (w:=w) (p:=p) (by omega);have hx:wq n (gI w p):=hw _ (rn (by omega) (by omega));have DT:((doneF w (.out p)).length:Int)=w.length-2:=by show((w.take p.toNat++w.drop (p+2).toNat).length:Int)=_;rw[bz,cC,d7];omega
  refine⟨?_,?_,rfl⟩
  ·show eg n _ (.yG p (gI w p))=true
   simp_all only [eg,dM,BO,decide_eq_true_eq];refine⟨by unfold xy;rw[DT];simp;omega,beq_false_of_ne hx.1,?_⟩;unfold i9 wq at*;split<;>omega
  ·show(w.take p.toNat++w.drop (p+2).toNat).take p.toNat++[gI w p,-gI w p]++(w.take p.toNat++w.drop (p+2).toNat).drop p.toNat=w
   rw[vI (by omega),vH (by omega)]
   conv=>rhs;rw[E8 (w:=w) (p:=p) (by omega)]
   have e: -gI w p=gI w (p+1):=(by omega);rw[e];simp
 |yG p k=>
  dsimp only at hp;have ht:=tk (w:=w) (p:=p) (by omega);have g0:gI (doneF w (.yG p k)) p=k:=by show gI (w.take p.toNat++[k,-k]++w.drop p.toNat) p=k;rw[jL,qd (by omega),ht,G1];rfl
  have g1:gI (doneF w (.yG p k)) (p+1)= -k:=by show gI (w.take p.toNat++[k,-k]++w.drop p.toNat) (p+1)= -k;rw[jL,qd (by omega),ht,show p+1-p=1 by omega];rfl
  have DT:((doneF w (.yG p k)).length:Int)=w.length+2:=by show((w.take p.toNat++[k,-k]++w.drop p.toNat).length:Int)=_;rw[bz,bz,cC,d7];simp;omega
  refine⟨?_,?_,?_⟩
  ·show eg n _ (.out p)=true
   simp_all only [eg,dM,beq_iff_eq];refine⟨by unfold xy;rw[DT];simp;omega,?_⟩;rw[g0,g1];omega
  ·show(w.take p.toNat++[k,-k]++w.drop p.toNat).take p.toNat++(w.take p.toNat++[k,-k]++w.drop p.toNat).drop (p+2).toNat=w
   rw[jL,vI (by omega),<-jL,vH (by rw[bz];simp;omega),G0]
  ·show Mv.yG p (gI (doneF w (.yG p k)) p)=_
   rw[g0]
 |far p=>
  dsimp only at hp;have ht:=tk (w:=w) (p:=p) (by omega);have g0:gI (doneF w (.far p)) p=gI w (p+1):=by show gI (w.take p.toNat++[gI w (p+1),gI w p]++w.drop (p+2).toNat) p=_;rw[jL,qd (by omega),ht,G1];rfl
  have g1:gI (doneF w (.far p)) (p+1)=gI w p:=by show gI (w.take p.toNat++[gI w (p+1),gI w p]++w.drop (p+2).toNat) (p+1)=_;rw[jL,qd (by omega),ht,show p+1-p=1 by omega];rfl
  have DT:((doneF w (.far p)).length:Int)=w.length:=by show((w.take p.toNat++[gI w (p+1),gI w p]++w.drop (p+2).toNat).length:Int)=_;rw[bz,bz,cC,d7];simp;omega
  refine⟨?_,?_,rfl⟩
  ·show eg n _ (.far p)=true
   simp -implicitDefEqProofs only [eg,dM,decide_eq_true_eq]at h⊢;refine⟨by unfold xy;rw[DT];simp;omega,?_⟩;rw[g0,g1];have:=h.2;generalize i9 (gI w p)=x at this⊢;generalize i9 (gI w (p+1))=y at this⊢;unfold i9 at*;split at this<;>split<;>omega
  ·show(doneF w (.far p)).take p.toNat++[gI (doneF w (.far p)) (p+1),gI (doneF w (.far p)) p]++(doneF w (.far p)).drop (p+2).toNat=w
   rw[g0,g1];show(w.take p.toNat++[gI w (p+1),gI w p]++w.drop (p+2).toNat).take p.toNat++_++(w.take p.toNat++[gI w (p+1),gI w p]++w.drop (p+2).toNat).drop (p+2).toNat=w;rw[vH (by rw[bz];simp;omega),jL (w.take p.toNat),vI (by omega)]
   conv=>rhs;rw[E8 (w:=w) (p:=p) (by omega)]
   simp
 |near p=>
  dsimp only at hp;have ht:=tk (w:=w) (p:=p) (by omega);simp -implicitDefEqProofs only [eg,dM,beq_iff_eq]at h;have g0:gI (doneF w (.near p)) p=gI w (p+1):=by show gI (w.take p.toNat++[gI w (p+1),gI w p,gI w (p+1)]++w.drop (p+3).toNat) p=_;rw[jL,qd (by omega),ht,G1];rfl
  have g1:gI (doneF w (.near p)) (p+1)=gI w p:=by show gI (w.take p.toNat++[gI w (p+1),gI w p,gI w (p+1)]++w.drop (p+3).toNat) (p+1)=_;rw[jL,qd (by omega),ht,show p+1-p=1 by omega];rfl
  have g2:gI (doneF w (.near p)) (p+2)=gI w (p+1):=by show gI (w.take p.toNat++[gI w (p+1),gI w p,gI w (p+1)]++w.drop (p+3).toNat) (p+2)=_;rw[jL,qd (by omega),ht,show p+2-p=2 by omega];rfl
  have DT:((doneF w (.near p)).length:Int)=w.length:=by show((w.take p.toNat++[gI w (p+1),gI w p,gI w (p+1)]++w.drop (p+3).toNat).length:Int)=_;rw[bz,bz,cC,d7];simp;omega
  refine⟨?_,?_,rfl⟩
  ·show eg n _ (.near p)=true
   simp_all only [eg,dM,beq_iff_eq];refine⟨⟨by unfold xy;rw[DT];simp;omega,by rw[g0,g2]⟩,?_⟩;rw[g0,g1];have:=h.2;unfold i9 at*;split at this<;>split<;>omega
  ·show(doneF w (.near p)).take p.toNat++[gI (doneF w (.near p)) (p+1),gI (doneF w (.near p)) p,gI (doneF w (.near p)) (p+1)]++(doneF w (.near p)).drop (p+3).toNat=w
   rw[g0,g1];show(w.take p.toNat++[gI w (p+1),gI w p,gI w (p+1)]++w.drop (p+3).toNat).take p.toNat++_++(w.take p.toNat++[gI w (p+1),gI w p,gI w (p+1)]++w.drop (p+3).toNat).drop (p+3).toNat=w;rw[vH (by rw[bz];simp;omega),jL (w.take p.toNat),vI (by omega)]
   conv=>rhs;rw[SS (w:=w) (p:=p) (by omega)]
   rw[<-h.1.2];simp
theorem R.dW {α:Type}(a:α):(R.ok a).ne=.ok a:=rfl
def Ow{b:D->DE->R Out}{x:D}{xs:List D}{e:DE}{c:Str}(h:b x e=.err c):iB b (x::xs) e=.err c:=by rw[iB,h];rfl
def o4(n k:Int):Bool:= !(k==0)&&decide ((if k<0 then-k else k)<n)
def zz(n k:Int):o4 n k=true↔wq n k:=by
 unfold o4 wq;simp_all only [dM,BO,beq_eq_false_iff_ne,decide_eq_true_eq];constructor
 ·rintro⟨h1,h2⟩
  refine⟨h1,?_⟩;split at h2<;>omega
 ·rintro⟨h1,h2⟩
  refine⟨h1,?_⟩;split<;>omega
def Ca(n k:Int):eI [.int n,.int k]=.ok (.bl (o4 n k)):=by
 unfold eI n8 o4;simp_all;cases h:(k==0)with
 |false=>simp_all [gJ,fQ]
 |true=>simp_all [cA,cY]
def mO(n:Int)(w:List Int):Bool:=decide (1<=n)&&decide (n<=7)&&w.all (o4 n)
theorem vJ(n:Int)(d:D):∀(w:List Int)(s:Sl),(w.all (o4 n)=true->∃s',iB f6 (cH w) [.val (.int n),.val d,s]=.ok (.nx [.val (.int n),.val d,s']))/\(w.all (o4 n)=false->iB f6 (cH w) [.val (.int n),.val d,s]=.err "NoWord")
 |[],s=>⟨λ_=>⟨s,rfl⟩,λh=>by cases h⟩
 |k::w,s=>by
  have e:iB f6 (cH (k::w)) [.val (.int n),.val d,s]=if o4 n k=true then iB f6 (cH w) [.val (.int n),.val d,.val (.int k)]else .err "NoWord":=by
   show iB f6 (D.int k::cH w) _=_;have e1:f6 (.int k) [.val (.int n),.val d,s]=if o4 n k=true then .ok (.nx [.val (.int n),.val d,.val (.int k)])else .err "NoWord":=by
    unfold f6;simp_all [CT,Ca];cases o4 n k with
    |false=>simp_all [gJ]
    |true=>simp_all [cA]
   cases hk:o4 n k with
   |false=>rw[hk]at e1;exact Ow e1
   |true=>rw[hk]at e1;exact lq e1
  rw[e];have ih:=vJ n d w (.val (.int k));cases hk:o4 n k with
  |false=>
   refine⟨λh=>?_,λ_=>by simp_all⟩;rw[Gv,hk]at h;cases h
  |true=>
   simp_all;rw[Gv,hk,fQ];exact ih
def nP(n:Int)(w:List Int):gp [.int n,.lst (cH w)]=if mO n w=true then .ok (.bl true)else .err "NoWord":=by
 unfold gp Az mO
 by_cases h1:n<1
 ·have xp:¬1<=n:=by omega
  simp_all [JG,h1,xp,decide_true,decide_false,cY,zw,R.mh]
 ·have xp:1<=n:=by omega
  by_cases h7:7<n
  ·have Y4:¬n<=7:=by omega
   simp_all [JG,h1,xp,h7,Y4,decide_true,decide_false,fQ,cY,zw,R.mh]
  ·have Y4:n<=7:=by omega
   have hl:=vJ n (.lst (cH w)) w .no;simp_all [JG,h1,xp,h7,Y4,decide_true,decide_false,fQ];cases hw:w.all (o4 n)with
   |true=>
    obtain⟨s',e⟩:=hl.1 hw;rw[e];simp_all
   |false=>
    rw[hl.2 hw];simp_all [zw,R.mh]
def upTo(n:Nat):List Int:=(eR n).map λi=>((i:Nat):Int)
def mem_upTo{n:Nat}{x:Int}:x∈upTo n↔0<=x/\x<n:=by
 simp_all only [upTo,G2,LC];constructor
 ·rintro⟨i,h,rfl⟩;omega
 ·rintro⟨h1,h2⟩;exact⟨x.toNat,by omega,by omega⟩
def HZ(n:Nat):CJ 0 n=cH (upTo n):=by rw[M6];congr 1;simp[upTo]
theorem SV(i:Int):t6 (.int i) .non=aa (.bl false):=rfl
theorem SW(xs:List D):t6 (.lst xs) .non=aa (.bl false):=rfl
theorem Ld(i:Int):j8 (sJ (.int i)) "int"=true:=rfl
theorem SX(i:Int):j8 (sJ (.int i)) "bool"=false:=rfl
theorem SY(xs:List D):j8 (sJ (.lst xs)) "int"=false:=rfl
theorem S2(xs:List D):j8 (sJ (.lst xs)) "str"=false:=rfl
theorem sub_lt(xs:List D):j8 (sJ (.lst xs)) "tuple"=false:=rfl
def Ia(i:Int):eJ [.int i]=.ok (.bl true):=by unfold eJ tj;simp_all [Ld,SX,gJ]
def Ox{n:Nat}{x:D}(h:x∈cH (upTo n)):∃j:Nat,j<n/\x=.int j:=by obtain⟨k,hk,rfl⟩:=G2.mp h;obtain⟨h1,h2⟩:=mem_upTo.mp hk;exact⟨k.toNat,by omega,by rw[show((k.toNat:Nat):Int)=k by omega]⟩
def S3(i:Int):fV [.int i,.int i]=.ok (.bl true):=by unfold fV qp;simp_all [SV,Ld,Ia,beq_self_eq_true]
def S4(xs:List D)(hl:xs.length<=1000)(h:∀x∈xs,fV [x,x]=.ok (.bl true)):f9 [.lst xs,.lst xs]=.ok (.bl true):=by
 unfold f9 vq;simp_all [SW,SY,S2,sub_lt,Ru,cA,gJ,beq_self_eq_true];rw[Rb _ (by omega),uO,HZ];obtain⟨e,-⟩:=CQ (S:=Sl) (b:=lg) (λ_=>True) (λs=>[.val (.lst xs),.val (.lst xs),s]) (λ_ x=>.val x) (cH (upTo xs.length)) .no trivial λs x _ hx=>by
  obtain⟨j,hj,rfl⟩:=Ox hx;refine⟨?_,trivial⟩;unfold lg;simp_all [CT];have ea:nA xs (j:Int)=aa xs[j]:=by rw[pR (by omega),uO,cQ hj]
  rw[ea];simp_all;rw[h xs[j] (GY _)];simp_all [cA]
 simp_all;rw[e];simp_all
def Du(w:List Int)(h:w.length<=1000):f9 [.lst (cH w),.lst (cH w)]=.ok (.bl true):=S4 _ (by rw[cz];exact h) λx hx=>by obtain⟨k,_,rfl⟩:=G2.mp hx;exact S3 k
def Cn(z:Int):kR (.int z) (.int 3)=aa (.int (z%3)):=jk z 3 (by decide)
def Co(z:Int):kR (.int z) (.int 7)=aa (.int (z%7)):=jk z 7 (by decide)
def Cp(z:Int):kR (.int z) (.int 9)=aa (.int (z%9)):=jk z 9 (by decide)
def Cq(z:Int):nW (.int z) (.int 3)=aa (.int (z/3)):=nY z 3 (by decide)
def Cr(z:Int):nW (.int z) (.int 7)=aa (.int (z/7)):=nY z 7 (by decide)
def qB(z:Int):nW (.int z) (.int 16)=aa (.int (z/16)):=nY z 16 (by decide)
def qC(z:Int):nW (.int z) (.int 21)=aa (.int (z/21)):=nY z 21 (by decide)
def kg(z:Int):nW (.int z) (.int 147)=aa (.int (z/147)):=nY z 147 (by decide)
def qe(a0 a1 a2 a3 a4:D):fit [a0,a1,a2,a3,a4]=.ok [a0,a1,a2,a3,a4]:=pQ (big (by simp))
def qD(a0 a1 a2 a3 a4 a5 a6:D):fit [a0,a1,a2,a3,a4,a5,a6]=.ok [a0,a1,a2,a3,a4,a5,a6]:=pQ (big (by simp))
def qE(a0 a1 a2 a3 a4 a5 a6 a7 a8:D):fit [a0,a1,a2,a3,a4,a5,a6,a7,a8]=.ok [a0,a1,a2,a3,a4,a5,a6,a7,a8]:=pQ (big (by simp))
def Dv{xs:List D}{k:Int}(x:Int)(h0:0<k)(hk:(xs.length:Int)=k):∃y∈xs,nA xs (x%k)=aa y:=by
 have h1:=vm x (show k≠0 by omega);have h2:=GU x h0;have h3:(x%k).toNat<xs.length:=by omega
 exact⟨xs[(x%k).toNat],GY h3,by rw[pR h1,cQ h3]⟩
inductive Dd where
 |o5 (v:List Int)|drop (k:Int)|go (m:Mv)
def Dd.k:Dd->Str
 |.o5 _=>"hang"
 |.drop _=>"drop"
 |.go _=>"go"
def Dd.p:Dd->D
 |.o5 v=>.lst (cH v)
 |.drop k=>.int k
 |.go m=>m.d
def Dd.d (d:Dd):D:=.tup [.str d.k,d.p]
def Dw{v:List Int}{p:Int}(h:0<=p):cut (cH v) none (aa p)=cH (v.take p.toNat):=by rw[gz,kX _ _ h]
def Le{v:List Int}{p:Int}(h:0<=p):cut (cH v) (aa p) none=cH (v.drop p.toNat):=by rw[gz,iW _ _ h]
def in7{a b c d e f g y:D}(h:y∈[a,b,c,d,e,f,g]):y=a\/y=b\/y=c\/y=d\/y=e\/y=f\/y=g:=by simpa using h
def in9{a b c d e f g i j y:D}(h:y∈[a,b,c,d,e,f,g,i,j]):y=a\/y=b\/y=c\/y=d\/y=e\/y=f\/y=g\/y=i\/y=j:=by simpa using h
def in3{a b c y:D}(h:y∈[a,b,c]):y=a\/y=b\/y=c:=by simpa using h
def Vv{a b c d e f g:Int}{y:D}(h:y∈[D.int a,D.int b,D.int c,D.int d,D.int e,D.int f,D.int g]):∃k:Int,y=.int k:=by rcases in7 h with h|h|h|h|h|h|h<;>exact⟨_,h⟩
def Y5{a b c d e f g i j:Int}{y:D}(h:y∈[D.int a,D.int b,D.int c,D.int d,D.int e,D.int f,D.int g,D.int i,D.int j]):∃k:Int,y=.int k:=by rcases in9 h with h|h|h|h|h|h|h|h|h<;>exact⟨_,h⟩
def E9(n:Int)(w:List Int)(z far:Int)(hz:0<=z)(hn:1<=n):∃d:Dd,g8 [.int n,.lst (cH w),.int z,.int far]=.ok d.d/\∀v,d=.o5 v->v.length<=4:=by
 unfold g8 qW;simp_all [Cn,Co,Cp,Cq,Cr,qB,qC,kg,qe,qD,qE];generalize z/3=y;generalize hk:z%3=kd
 by_cases h0:kd=0
 ·have e0:(kd==0)=true:=by simp[h0]
  simp_all [e0,Cn,Co,Cp,Cq,Cr,qB,qC,kg,qe,qD,qE];rw[show[D.int y,D.int (y/7)]=cH [y,y/7]from rfl,Ka _ _ _ (by simp) hn (by decide)];have hl:(ze [y,y/7] n 3).length<=3:=EO _ _ _;generalize ze [y,y/7] n 3=more at hl;simp_all [Cn,Co,Cp,Cq,Cr,qB,qC,kg,qe,qD,qE,cz];rw[jk _ _ (by omega)];have hp:=vm (y/3) (show((more.length:Int)+1)≠0 by omega);generalize y/3%((more.length:Int)+1)=p at hp;simp_all [Cn,Co,Cp,Cq,Cr,qB,qC,kg,qe,qD,qE];obtain⟨b,hb,eb⟩:=Dv (xs:=[D.lst [],D.lst [],D.lst [.int 0],D.lst [.int n],D.lst [.int (-n)],D.lst [.int (n+far)],D.lst [.int (-n-far)]]) (k:=7) (y/16) (by decide) rfl;rw[eb];obtain⟨v,rfl,hv⟩:∃v:List Int,b=.lst (cH v)/\v.length<=1:=by
   rcases in7 hb with h|h|h|h|h|h|h
   ·exact⟨[],h,by simp⟩
   ·exact⟨[],h,by simp⟩
   ·exact⟨[_],h,by simp⟩
   ·exact⟨[_],h,by simp⟩
   ·exact⟨[_],h,by simp⟩
   ·exact⟨[_],h,by simp⟩
   ·exact⟨[_],h,by simp⟩
  simp_all [Cn,Co,Cp,Cq,Cr,qB,qC,kg,qe,qD,qE];rw[Dw hp,Le hp,fP,fH (by simp;omega)];simp_all [Cn,Co,Cp,Cq,Cr,qB,qC,kg,qe,qD,qE];rw[fP,fH (by simp;omega)];simp_all [Cn,Co,Cp,Cq,Cr,qB,qC,kg,qe,qD,qE];exact⟨.o5 (more.take p.toNat++v++more.drop p.toNat),rfl,λv' e=>by cases e;simp;omega⟩
 ·have e0:(kd==0)=false:=by simp[h0]
  by_cases h1:kd=1
  ·have e1:(kd==1)=true:=by simp[h1]
   simp_all [e0,e1,Cn,Co,Cp,Cq,Cr,qB,qC,kg,qe,qD,qE,cz];obtain⟨b,hb,eb⟩:=Dv (xs:=[D.int 0,D.int w.length,D.int ((w.length:Int)+1),D.int (-1),D.int ((w.length:Int)+1+far),D.int (-1-far),D.int 1]) (k:=7) y (by decide) rfl;rw[eb];obtain⟨k,rfl⟩:=Vv hb;simp_all [Cn,Co,Cp,Cq,Cr,qB,qC,kg,qe,qD,qE];exact⟨.drop k,rfl,λv' e=>by cases e⟩
  ·have e1:(kd==1)=false:=by simp[h1]
   simp_all [e0,e1,Cn,Co,Cp,Cq,Cr,qB,qC,kg,qe,qD,qE,cz];rw[jk _ _ (by omega)];simp_all [Cn,Co,Cp,Cq,Cr,qB,qC,kg,qe,qD,qE];generalize y/21%((w.length:Int)+1)=q;obtain⟨b,hb,eb⟩:=Dv (xs:=[D.int 0,D.int q,D.int w.length,D.int (-1),D.int ((w.length:Int)+1),D.int far,D.int (-far)]) (k:=7) y (by decide) rfl;rw[eb];obtain⟨p,rfl⟩:=Vv hb;simp_all [Cn,Co,Cp,Cq,Cr,qB,qC,kg,qe,qD,qE]
   by_cases h2:y/7%3=0
   ·have e2:(y/7%3==0)=true:=by simp[h2]
    simp_all [e2,Cn,Co,Cp,Cq,Cr,qB,qC,kg,qe,qD,qE];obtain⟨b,hb,eb⟩:=Dv (xs:=[D.int 1,D.int (-1),D.int (n-1),D.int (1-n),D.int 0,D.int n,D.int (-n),D.int (n+far),D.int (-n-far)]) (k:=9) (y/147) (by decide) rfl;rw[eb];obtain⟨k,rfl⟩:=Y5 hb;simp_all [Cn,Co,Cp,Cq,Cr,qB,qC,kg,qe,qD,qE];exact⟨.go (.yG p k),rfl,λv' e=>by cases e⟩
   ·have e2:(y/7%3==0)=false:=by simp[h2]
    simp_all [e2,Cn,Co,Cp,Cq,Cr,qB,qC,kg,qe,qD,qE];obtain⟨b,hb,eb⟩:=Dv (xs:=[D.str "out",D.str "far",D.str "near"]) (k:=3) (y/147) (by decide) rfl;rw[eb];rcases in3 hb with rfl|rfl|rfl
    ·simp_all [Cn,Co,Cp,Cq,Cr,qB,qC,kg,qe,qD,qE]
     exact⟨.go (.out p),rfl,λv' e=>by cases e⟩
    ·simp_all [Cn,Co,Cp,Cq,Cr,qB,qC,kg,qe,qD,qE]
     exact⟨.go (.far p),rfl,λv' e=>by cases e⟩
    ·simp_all [Cn,Co,Cp,Cq,Cr,qB,qC,kg,qe,qD,qE]
     exact⟨.go (.near p),rfl,λv' e=>by cases e⟩
def lr(n:Int)(w:List Int):Dd->Str
 |.o5 v=>if mO n v=true then "" else "word"
 |.drop k=>if 0<=k/\k<=(w.length:Int)then "" else "move"
 |.go m=>if eg n w m=true then "" else "move"
def qg(w:List Int):Dd->List Int
 |.o5 v=>w++v
 |.drop k=>w.take (w.length-k).toNat
 |.go m=>doneF w m
theorem zA{b:D->DE->R DE}{ct:DE->R Bool}{fe:DE->R D}{e₀:DE}(q:Int->Bool):∀(w:List Int),(∀k∈w,∃e,b (.int k) e₀=.ok e/\ct e=.ok (q k)/\fe e=.ok (.int k))->qm b ct fe e₀ (cH w)=.ok (cH (w.filter q))
 |[],_=>rfl
 |k::w,h=>by
  obtain⟨e,h1,h2,h3⟩:=h k (ky ..);have ih:=zA q w λx hx=>h x (cP _ hx);show((b (.int k) e₀).bind λe=>(ct e).bind λt=>if t=true then(fe e).bind λd=>(qm b ct fe e₀ (cH w)).bind λds=>R.ok (d::ds)else qm b ct fe e₀ (cH w))=_;rw[h1,R.cg,h2,R.cg,ih];cases hq:q k with
  |true=>rw[if_pos rfl,h3,List.filter_cons_of_pos hq];rfl
  |false=>rw[if_neg (by decide),List.filter_cons_of_neg (by simp[hq])]
def Vw(n k:Int):og [.val (.int k),.val (.int n)]=.ok (!o4 n k):=by
 unfold og o4;simp_all;cases h:(k==0)with
 |true=>simp_all [cA,cY,gJ]
 |false=>
  simp_all [gJ,fQ];congr 1;generalize (if k<0 then-k else k)=j
  by_cases h2:j<n
  ·rw[decide_eq_true h2,decide_eq_false (by omega)];rfl
  ·rw[decide_eq_false h2,decide_eq_true (by omega)];rfl
def Vx:(("hang":Str)==("hang":Str))=true:=by decide
def Vy:(("drop":Str)==("hang":Str))=false:=by decide
def Vz:(("drop":Str)==("drop":Str))=true:=by decide
def VA:(("go":Str)==("hang":Str))=false:=by decide
def VB:(("go":Str)==("drop":Str))=false:=by decide
def S5{n:Int}{w:List Int}{d:Dd}(hn:1<=n/\n<=7)(hw:∀k∈w,wq n k)(hd:∀v,d=.o5 v->v.length<=4):my [.int n,.lst (cH w),d.d]=.ok (.str (lr n w d)):=by
 unfold my zj;cases d with
 |o5 v=>
  have hv:=hd v rfl;simp_all [Dd.d,Dd.k,Dd.p,d9,ee,Vx,yV,vY];rw[zA (λk=> !o4 n k) v λk _=>⟨[.val (.int k),.val (.int n)],rfl,Vw n k,rfl⟩,R.dW,R.cg,fH (gW (List.length_filter_le _ _) (by omega))];simp_all;rw[show D.lst []=D.lst (cH [])from rfl,Jy];simp_all [lr];have e:mO n v=v.all (o4 n):=by unfold mO;rw[decide_eq_true hn.1,decide_eq_true hn.2];rfl
  by_cases h:v.filter (λk=> !o4 n k)=[]
  ·have h':v.all (o4 n)=true:=by
    rw[u5];intro k hk;have:=Oz.mp h k hk;simpa using this
   rw[decide_eq_true h,e,h'];simp_all
  ·have h':v.all (o4 n)=false:=by
    rw[Nv];intro z;refine h (Oz.mpr λk hk=>?_);rw[u5]at z;rw[z k hk];decide
   rw[decide_eq_false h,e,h'];simp_all
 |drop k=>
  simp_all [Dd.d,Dd.k,Dd.p,d9,ee,Vy,Vz,cz,lr]
  by_cases h0:0<=k
  ·by_cases h1:k<=(w.length:Int)
   ·simp_all [h0,h1,and_self,decide_true,decide_false]
   ·simp_all [h0,h1,and_false,decide_true,decide_false]
  ·simp_all [h0,false_and,decide_true,decide_false]
 |go m=>
  simp_all [Dd.d,Dd.k,Dd.p,d9,ee,VA,VB,lr];rw[SR n w m hn.2 hw];simp_all;cases eg n w m with
  |true=>simp_all
  |false=>simp_all
def Y6(n:Int)(w:List Int):Dd->Prop
 |.o5 v=>mO n v=true
 |.drop k=>0<=k/\k<=(w.length:Int)
 |.go m=>eg n w m=true
def wJ{n:Int}{w:List Int}:∀{d:Dd},lr n w d=""->Y6 n w d
 |.o5 v,h=>by
  have h':(if mO n v=true then("":Str)else "word")="":=h;split at h'
  ·assumption
  ·exact absurd h' (by decide)
 |.drop k,h=>by
  have h':(if 0<=k/\k<=(w.length:Int)then("":Str)else "move")="":=h;split at h'
  ·assumption
  ·exact absurd h' (by decide)
 |.go m,h=>by
  have h':(if eg n w m=true then("":Str)else "move")="":=h;split at h'
  ·assumption
  ·exact absurd h' (by decide)
def Ib{n:Int}{w:List Int}{d:Dd}(hl:w.length<=500)(hd:∀v,d=.o5 v->v.length<=4)(h:lr n w d=""):iY [.lst (cH w),d.d]=.ok (.lst (cH (qg w d))):=by
 have hc:=wJ h;unfold iY tm;cases d with
 |o5 v=>
  have hv:=hd v rfl;simp_all [Dd.d,Dd.k,Dd.p,d9,ee,Vx];rw[fP,fH (by simp;omega)];simp_all [qg]
 |drop k=>
  have hc:0<=k/\k<=(w.length:Int):=hc;simp_all [Dd.d,Dd.k,Dd.p,d9,ee,Vy,Vz,cz];rw[Dw (by omega)];simp_all [qg]
 |go m=>
  simp_all [Dd.d,Dd.k,Dd.p,d9,ee,VA,VB];rw[Oi n w m (by omega) hc];simp_all [qg]
def Lf{n:Int}{w:List Int}{d:Dd}(hw:∀k∈w,wq n k)(h:lr n w d=""):∀k∈qg w d,wq n k:=by
 have hc:=wJ h;cases d with
 |o5 v=>
  have hc:mO n v=true:=hc;unfold mO at hc;simp -implicitDefEqProofs only [dM,u5]at hc;intro k hk;rcases eU.mp hk with z|z
  ·exact hw k z
  ·exact(zz n k).mp (hc.2 k z)
 |drop k=>exact λx hx=>hw x (yI hx)
 |go m=>exact Om hw hc
def OA{n:Int}{w:List Int}{d:Dd}(hd:∀v,d=.o5 v->v.length<=4)(h:lr n w d=""):(qg w d).length<=w.length+4/\(∀k,d=.drop k->(qg w d).length<=w.length):=by
 have hc:=wJ h;cases d with
 |o5 v=>
  have hv:=hd v rfl;refine⟨?_,λk e=>by cases e⟩;show(w++v).length<=_;rw[bz];omega
 |drop k=>
  have e:(qg w (.drop k)).length<=w.length:=by show(w.take _).length<=_;rw[cC];omega
  exact⟨by omega,λ_ _=>e⟩
 |go m=>
  have:=(Dt hc).1;exact⟨by show(doneF w m).length<=_;omega,λk e=>by cases e⟩
end DL
namespace DL.oh
open PySem PySem.Spec PyProof.Rows L2 DL
abbrev qF(j:Nat):aB:=inClass (top 28) j
structure Qi(K:aj)(mg:Str->Option ah)(C:ae):Prop where
 lo:Lo K C
 n:pH K C "n"
 held:pH K C "held"
 zB:pH K C "backs"
 WH:mg "len"=none
 mli:mg "list"=none
section
variable{P:aO}{w:aD}{K:aj}{mg:Str->Option ah}{base:au}
def S6:bh ["self"] ["self"] (az (qF 5)):=⟨rfl,rfl,rfl,by decide +kernel,rfl,by decide +kernel,by decide +kernel⟩
def S7{f C:ae}{fd:aL}(F:Br K "now" "Loom.now" (qF 5) f fd)(T:Qi K mg C):fz P w K mg base lL 1 f fd ["self"] (WB K):=by
 refine F.ok S6 (λvs H Q E h=>?_) (λcdv A outer s H vs Q E hr h=>?_)
 ·obtain⟨a,as,c,rfl,_⟩:=h
  rfl
 ·obtain⟨a,as,c,rfl,dp,hl,k⟩:=h
  obtain⟨_,_,C',dx,p,b,ws,h0,h1,h2,h3,h4,h5,h6,h7,h8,h9⟩:=dp;rw[T.lo.ns]at h0;cases h0;refine⟨_,gr (l9 (Ho Bp (by rfl) T.mli pP (aX (gm (pv 0) rfl) cX))),?_⟩;refine⟨_,rfl,a,C,dx,_,_,rfl,h6,T.lo.cl,T.held,rfl,p,_,rfl,.inl (lB.of h7),λl hn=>?_⟩;exact k l _ (d8 hn _) hn aV
def tN{P:ae->Prop}{H:Hp}{d:D}{ws:List V}(h:IsL K P H [d] ws):∃v,ws=[v]/\Is K P H d v:=by obtain⟨v,r,rfl,h1,h2⟩:=h;exact⟨v,by rw[show r=[]from h2],h1⟩
noncomputable def jY(s:gq)(ds:List D):R (D×gq):=match ds with
 |[.lst xs]=>(gp [.int s.1,.lst xs]).bind λ_=>match Ck xs with
  |some u=>if s.2.1.length+u.length<1000000/\s.2.2.length<1000000 then .ok (.non,s.1,s.2.1++u,s.2.2++[.tup [.str "cut",.int s.2.1.length]])else .bad
  |none=>.bad
 |_=>.bad
def Dy{s:gq}{ds:List D}(h:jY s ds≠.bad):∃xs,ds=[.lst xs]:=by
 unfold jY at h;split at h
 ·exact⟨_,rfl⟩
 ·exact(h rfl).elim
def OB:bh ["self","word"] ["self","word"] (az (qF 1)):=⟨rfl,rfl,rfl,by decide +kernel,rfl,by decide +kernel,by decide +kernel⟩
def OC{f C:ae}{fd:aL}(F:Br K "hang" "Loom.hang" (qF 1) f fd)(T:Qi K mg C)(t:Tb K mg)(G:CY P w K mg base 2 t.l6 t.l7 ["n","word"] gp):vN P w K mg base (jz P w) 3 f fd ["self","word"] jY:=by
 obtain⟨oc,od,kV,doc,pm,an,cdv,ct,Bc,rfl,lk,hcd⟩:=F.ex;refine xh lk hcd OB (λvs H Q E h=>?_) λA outer s H vs Q E hr h=>?_
 ·obtain⟨a,as,c,ds,ws,rfl,dp,i,h⟩:=h
  obtain⟨xs,rfl⟩:=Dy (s:=c) (ds:=ds) λz=>by rw[z]at h;exact h
  obtain⟨v,rfl,_⟩:=tN i;rfl
 ·obtain⟨a,as,c,ds,ws,rfl,dp,i,h⟩:=h
  obtain⟨_,_,C',dx,p,b,us,h0,h1,h2,h3,h4,h5,h6,h7,h8,h9⟩:=dp;rw[T.lo.ns]at h0;cases h0;refine⟨_,dJ (lI (kC (E:=EX (yB K) λn H'=>E (yB K n) none H') G (hr.mono (by decide)) (by rfl) t.jr.m t.jr.F.kp t.jr.b .nil CW (aX (gm (pv 0) rfl) (aX (pv 1) cX))) rfl)
   (dJ (lI (Gd yr Bw Bx oG (gm (pv 0) rfl) (aX (qK (aX l8 (aX (jH lK (by rfl) T.WH cW (aX (gm (pv 0) rfl) cX)) cX))) cX)) rfl)
   (gr (pJ (pv 0) (CA Bv (gm (pv 0) rfl) (pv 1)) rfl))),?_⟩
  obtain⟨xs,rfl⟩:=Dy (s:=c) (ds:=ds) λz=>by rw[z]at h;exact h
  obtain⟨v,rfl,l,vs,rfl,lat,il⟩:=tN i;refine⟨_,rfl,a,C,dx,_,_,rfl,h6,T.lo.cl,T.n,rfl,_,rfl,λ_=>True,[.int c.1,.lst xs],⟨_,_,rfl,rfl,_,_,rfl,⟨l,vs,rfl,lat.imp (λz=>⟨trivial,z.2⟩) id,IsL.ext ⟨λ_ _ _ _=>trivial,λ_ _ _ z=>z⟩ _ _ il⟩,rfl⟩,?_⟩;unfold jY at h;cases em:gp [.int c.1,.lst xs]with
  |bad=>simp only [em]at h;exact h
  |err n=>simp only [em]at h;exact λH' s'=>⟨n,rfl,h H' s'⟩
  |ok d=>
   simp only [em,R.cg]at h;intro v1 H1 s1 i1;cases et:Ck xs with
   |none=>simp only [et]at h
   |some u=>
    simp only [et]at h
    by_cases hb2:c.2.1.length+u.length<1000000/\c.2.2.length<1000000
    ·rw[if_pos hb2]at h
     have eu:=wc et;subst eu;have k6:=s1 _ _ h6;have k7:=s1 _ _ h7;have k8:=s1 _ _ h8;have lu:us.length=c.2.2.length:=h9.length;have sz:(1000000:Nat)<=aQ:=(by decide);refine⟨_,rfl,a,C,dx,_,_,rfl,k6,T.lo.cl,T.zB,rfl,.inl ⟨rfl,_,lB.of k8⟩,?_⟩;refine⟨_,rfl,a,C,dx,_,_,rfl,k6,T.lo.cl,T.held,rfl,p,_,rfl,.inl (lB.of k7),by show 2<=aQ;decide,λq hq=>?_⟩;have nq:∀x o,H1 x=aa o->x≠q:=λx o hx=>bE hx hq;refine⟨b,us,.ref q,rfl,rfl,by rw[aM (nq _ _ k8)];exact k8,by omega,?_⟩;generalize hH2:upd (upd H1 q (.tup [.str "cut",.int (c.2.1.map V.int).length])) b (.lst (us++[.ref q]))=H2;have pb:p≠b:=h3;have na:∀x∈as,x≠a:=λx hx e=>h4 (e▸hx);have old:∀x o,x≠b->H1 x=aa o->H2 x=aa o:=λx o hb hx=>by rw[<-hH2,aM hb,aM (nq _ _ hx)];exact hx
     have a2:=old a _ (λe=>h4 (e▸h2)) k6;have p2:=old p _ pb k7;have b2:H2 b=aa (.lst (us++[.ref q])):=(by rw[<-hH2];exact aV);have q2:H2 q=aa (.tup [.str "cut",.int (c.2.1.map V.int).length]):=(by rw[<-hH2,aM (λe=>nq _ _ k8 e.symm)];exact aV);obtain⟨l2,vs2,e2,Y7,il2⟩:=Is.ext (d:=.lst (cH u)) (P':=λx=>x∉a::as) (H':=H2) ⟨λ_ _ pz _=>pz,λx o pz hx=>old x o (λe=>pz (e▸cP _ h2)) (s1 _ _ hx)⟩ _ (show Is K (λx=>x∉a::as) H (.lst (cH u)) (.ref l)from⟨l,vs,rfl,lat,il⟩);cases e2;have ev:=si il2;subst ev;refine⟨_,rfl,a,C,dx,_,_,rfl,a2,T.lo.cl,T.held,rfl,_,rfl,p,l,_,_,rfl,rfl,lB.of p2,Y7.sq,by rw[gX,gX];omega,λr hr=>?_⟩;have nr:∀x o,H2 x=aa o->x≠r:=λx o hx=>bE hx hr;refine⟨_,rfl,a,C,dx,_,rfl,by rw[aM (nr _ _ a2)];exact a2,T.lo.cl,T.held,by show 3<1000;decide,?_⟩;generalize Fb:upd (upd H2 r (.lst (map V.int c.2.1++map V.int u))) a (.ins C dx (mf "held" (.ref r) [("n",.int c.1),("held",.ref p),("backs",.ref b)]))=H3;have n1r:H1 r=none:=by
      cases z:H1 r with
      |none=>rfl
      |some o=>
       exfalso
       by_cases e:r=b
       ·rw[e,b2]at hr;cases hr
       ·rw[old r o e z]at hr;cases hr
     have ar:a≠r:=nr _ _ a2;have o3:∀x o,x≠a->H2 x=aa o->H3 x=aa o:=λx o hx hz=>by rw[<-Fb,aM hx,aM (nr _ _ hz)];exact hz
     have a3:H3 a=aa (.ins C dx [("n",.int c.1),("held",.ref r),("backs",.ref b)]):=(by rw[<-Fb];exact aV);have r3:H3 r=aa (.lst ((c.2.1++u).map V.int)):=(by rw[<-Fb,aM ar.symm,u9];exact aV);have qa:q≠a:=λe=>nq _ _ k6 e.symm;have ba:b≠a:=na b h2;have b3:=o3 b _ ba b2;have q3:=o3 q _ qa q2;have al:∀x o,H x=aa o->∃o',H3 x=aa o':=λx o hx=>by
      by_cases ea:x=a
      ·exact⟨_,ea▸a3⟩
      ·by_cases eb:x=b
       ·exact⟨_,eb▸b3⟩
       ·exact⟨o,o3 x o ea (old x o eb (s1 _ _ hx))⟩
     refine h .non H3 (q::r::as) ⟨λx hx=>?_,λx hx=>?_,λx o hx hz=>?_⟩ ⟨λ_ z=>(nomatch z),λx hx=>hx,C,dx,r,b,us++[.ref q],T.lo.ns,by simp,by simp[h2],λe=>nr _ _ b2 e.symm,?_,λx hx=>?_,a3,r3,b3,?_⟩ rfl
     ·simp only [bR]at hx⊢
      rcases hx with e|e|e|e
      ·exact .inl (.inl e)
      ·exact .inr (e▸s1.free hq)
      ·exact .inr (e▸s1.free n1r)
      ·exact .inl (.inr e)
     ·cases z:H x with
      |none=>rfl
      |some o=>obtain⟨o',z'⟩:=al x o z;rw[z']at hx;cases hx
     ·exact o3 x o (λe=>hx (e▸ky)) (old x o (λe=>hx (e▸cP _ h2)) (s1 _ _ hz))
     ·simp only [bR,not_or]
      exact⟨qa.symm,ar,h4⟩
     ·simp only [bR]at hx
      rcases hx with rfl|rfl|e
      ·exact⟨_,q3⟩
      ·exact⟨_,r3⟩
      ·obtain⟨o,z⟩:=h5 x e
       exact al x o z
     ·refine IsL.app (IsL.ext ⟨λx o pz hx=>⟨by simp[pz.1],λe=>?_,pz.2.2⟩,λx o pz hx=>o3 x o (na x pz.1) (old x o pz.2.2 (s1 _ _ hx))⟩ _ _ h9) ⟨.ref q,[],rfl,⟨q,_,rfl,.inl ⟨⟨by simp,nr _ _ q2,λe=>nq _ _ k8 e.symm⟩,.inl q3⟩,⟨_,_,rfl,rfl,_,_,rfl,by rw[gX];rfl,rfl⟩⟩,rfl⟩
      have:=s1 _ _ hx;rw[e,n1r]at this;cases this
    ·rw[if_neg hb2]at h
     exact h.elim
end
end DL.oh
namespace DL.oh
open PySem PySem.Spec PyProof.Rows L2 DL
section
variable{P:aO}{w:aD}{K:aj}{mg:Str->Option ah}{base:au}
def Fc{H H3:Hp}{a C dx b p':ae}{as new:List ae}{n':Int}{ns':List Int}{ds':List D}{us':List V}(h0:cV K bU "Loom"=aa (aa (.ref C)))(h2:b∈as)(h4:a∉as)(h5:∀x∈a::as,∃o,H x=aa o)
  (hn:∀x∈new,H x=none/\∃o,H3 x=aa o)(hp:p'∈new)(a3:H3 a=aa (.ins C dx [("n",.int n'),("held",.ref p'),("backs",.ref b)]))(r3:H3 p'=aa (.lst (ns'.map V.int)))(b3:H3 b=aa (.lst us'))(keep:∀x o,x≠a->x≠b->H x=aa o->H3 x=aa o)
  (il:IsL K (λx=>x∈new++as/\x≠p'/\x≠b) H3 ds' us'):lZ H (a::as) H3 (a::(new++as))/\Dp K H3 (a::(new++as)) a (new++as) (e7 none (n',ns',ds')):=by
 have al:∀x o,H x=aa o->∃o',H3 x=aa o':=λx o hx=>by
  by_cases ea:x=a
  ·exact⟨_,ea▸a3⟩
  ·by_cases eb:x=b
   ·exact⟨_,eb▸b3⟩
   ·exact⟨o,keep x o ea eb hx⟩
 have nn:∀x∈a::as,x∉new:=λx hx z=>by obtain⟨o,ho⟩:=h5 x hx;rw[(hn x z).1]at ho;cases ho
 refine⟨⟨λx hx=>?_,λx hx=>?_,λx o hx hz=>keep x o (λe=>hx (e▸ky)) (λe=>hx (e▸cP _ h2)) hz⟩,λ_ z=>(nomatch z),λx hx=>hx,C,dx,p',b,us',h0,xV _ hp,fY _ h2,λe=>nn b (cP _ h2) (e▸hp),λz=>?_,λx hx=>?_,a3,r3,b3,il⟩
 ·rcases bR.mp hx with e|e
  ·exact .inl (e▸ky)
  ·rcases eU.mp e with e|e
   ·exact .inr (hn x e).1
   ·exact .inl (cP _ e)
 ·cases z:H x with
  |none=>rfl
  |some o=>obtain⟨o',z'⟩:=al x o z;rw[z']at hx;cases hx
 ·rcases eU.mp z with e|e
  ·exact nn a ky e
  ·exact h4 e
 ·rcases eU.mp hx with e|e
  ·exact(hn x e).2
  ·obtain⟨o,z⟩:=h5 x (cP _ e)
   exact al x o z
def nQ(ds:List D):R Int:=match ds with
 |[.int n]=>(gp [.int n,.lst []]).bind λ_=>.ok n
 |_=>.bad
def Dz{ds:List D}(h:nQ ds≠.bad):∃n,ds=[.int n]:=by
 unfold nQ at h;split at h
 ·exact⟨_,rfl⟩
 ·exact(h rfl).elim
def OD:bh ["self","n"] ["self","n"] (az (qF 0)):=⟨rfl,rfl,rfl,by decide +kernel,rfl,by decide +kernel,by decide +kernel⟩
def OE{f C:ae}{fd:aL}(F:Br K "__init__" "Loom.__init__" (qF 0) f fd)(T:Qi K mg C)(t:Tb K mg)(G:CY P w K mg base 2 t.l6 t.l7 ["n","word"] gp):fz P w K mg base (jz P w) 3 f fd ["self","n"] (NJ K nQ):=by
 obtain⟨oc,od,kV,doc,pm,an,cdv,ct,Bc,rfl,lk,hcd⟩:=F.ex;refine xh lk hcd OD (λvs H Q E h=>?_) λA outer s H vs Q E hr h=>?_
 ·obtain⟨x,dx,C',ds,ws,rfl,h0,hx,i,h⟩:=h
  obtain⟨n,rfl⟩:=Dz (ds:=ds) λz=>by rw[z]at h;exact h
  obtain⟨v,rfl,_⟩:=tN i;rfl
 ·obtain⟨x,dx,C',ds,ws,rfl,h0,hx,i,h⟩:=h
  rw[T.lo.ns]at h0;cases h0;obtain⟨n,rfl⟩:=Dz (ds:=ds) λz=>by rw[z]at h;exact h
  obtain⟨v,rfl,iv⟩:=tN i;obtain rfl:v=.int n:=iv;refine⟨_,dJ (lI (kC (E:=EX (yB K) λn H'=>E (yB K n) none H') G (hr.mono (by decide)) (by rfl) t.jr.m t.jr.F.kp t.jr.b .nil CW (aX (pv 1) (aX (A8 cX) cX))) rfl)
   (dJ (pJ (pv 0) (pv 1) rfl) (dJ (pJ (pv 0) (A8 cX) rfl) (gr (pJ (pv 0) (A8 cX) rfl)))),?_⟩
  refine⟨_,rfl,by show 0<=aQ;decide,λe he=>?_⟩;have se:bS H (upd H e (.lst [])):=d8 he _;refine⟨λ_=>True,[.int n,.lst []],⟨_,_,rfl,rfl,_,_,rfl,⟨e,[],rfl,.inl ⟨trivial,.inl aV⟩,rfl⟩,rfl⟩,?_⟩;unfold nQ at h;cases em:gp [.int n,.lst []]with
  |bad=>simp only [em]at h;exact h
  |err nm=>simp only [em]at h;exact λH' s'=>⟨nm,rfl,h H' (se.trans s')⟩
  |ok d=>
   simp only [em,R.cg]at h;intro v1 H1 s1 i1;have x1:=s1 _ _ (se _ _ hx);refine⟨_,rfl,_,rfl,x,C,dx,_,rfl,x1,T.lo.cl,T.n,by show 0<1000;decide,?_⟩;generalize hH2:upd H1 x (.ins C dx (mf "n" (.int n) []))=H2;have x2:H2 x=aa (.ins C dx [("n",.int n)]):=(by rw[<-hH2];exact aV);have k2:∀y o,y≠x->H1 y=aa o->H2 y=aa o:=λy o hy hz=>by rw[<-hH2,aM hy];exact hz
   refine⟨by show 0<=aQ;decide,λhh Y8=>?_⟩;have nh:∀y o,H2 y=aa o->y≠hh:=λy o hy=>bE hy Y8;refine⟨_,rfl,x,C,dx,_,rfl,by rw[aM (nh _ _ x2)];exact x2,T.lo.cl,T.held,by show 1<1000;decide,?_⟩;generalize Fb:upd (upd H2 hh (.lst [])) x (.ins C dx (mf "held" (.ref hh) [("n",.int n)]))=H3;have x3:H3 x=aa (.ins C dx [("n",.int n),("held",.ref hh)]):=(by rw[<-Fb];exact aV);have DW:hh≠x:=λe=>nh _ _ x2 e.symm;have h3:H3 hh=aa (.lst []):=(by rw[<-Fb,aM DW];exact aV);have k3:∀y o,y≠x->H2 y=aa o->H3 y=aa o:=λy o hy hz=>by rw[<-Fb,aM hy,aM (nh _ _ hz)];exact hz
   refine⟨by show 0<=aQ;decide,λbb hbn=>?_⟩;have nb:∀y o,H3 y=aa o->y≠bb:=λy o hy=>bE hy hbn;refine⟨_,rfl,x,C,dx,_,rfl,by rw[aM (nb _ _ x3)];exact x3,T.lo.cl,T.zB,by show 2<1000;decide,?_⟩;have bx:bb≠x:=λe=>nb _ _ x3 e.symm;have kk:∀y o,y≠x->H y=aa o->H3 y=aa o:=λy o hy hz=>k3 y o hy (k2 y o hy (s1 _ _ (se _ _ hz)));have free:∀z,z≠x->H3 z=none->H z=none:=λz hz hn=>by
    cases q:H z with
    |none=>rfl
    |some o=>rw[kk z o hz q]at hn;cases hn
   have VC:H hh=none:=by
    cases q:H hh with
    |none=>rfl
    |some o=>rw[k2 hh o DW (s1 _ _ (se _ _ q))]at Y8;cases Y8
   refine h _ hh bb (nb _ _ h3) VC (free bb bx hbn) (λy o hy hz=>by rw[aM hy,aM (nb _ _ (kk y o hy hz))];exact kk y o hy hz) (by exact aV) ?_ ?_
   ·rw[aM DW,aM (nb _ _ h3)];exact h3
   ·rw[aM bx];exact aV
end
end DL.oh
namespace DL.oh
open PySem PySem.Spec PyProof.Rows L2 DL
section
variable{P:aO}{w:aD}{K:aj}{mg:Str->Option ah}{base:au}
def S8{σ:St}{H:Hp}:Rel K ⟨λ_=>True,H⟩ (gx σ.length .no) σ H []:=by
 have n:∀(i:Nat)(sl:Sl),(gx σ.length Sl.no)[i]?=aa sl->sl=.no:=λi sl e=>NH (yg e);refine⟨by simp,bS.refl H,λi d e=>?_,λi xs e=>?_,λi j xs ys a e=>?_,λa ha=>(nomatch ha),λi v e=>?_,En.none λi c e=>?_⟩
 all_goals cases n i _ e
def wK(ns:List Int)(lo hi:Option Int):zR (ns.map V.int) lo hi=(cut ns lo hi).map V.int:=by unfold zR cut;rw[gX,M4,M5]
def xB{b:Bool}{A B:Prop}(h:b=true)(a:A):if b=true then A else B:=by rw[if_pos h];exact a
def zC{b:Bool}{A B:Prop}(h:b=false)(a:B):if b=true then A else B:=by rw[if_neg (by rw[h];exact gu)];exact a
noncomputable def kN(s:gq)(ds:List D):R (D×gq):=match ds with
 |[.int k]=>if k<0\/(s.2.1.length:Int)<k then .err "NoMove" else if s.2.2.length<1000000 then .ok (.non,s.1,cut s.2.1 none (aa (s.2.1.length-k)),s.2.2++[.tup [.str "join",.lst (cH (cut s.2.1 (aa (s.2.1.length-k)) none))]])else .bad
 |_=>.bad
def DA{s:gq}{ds:List D}(h:kN s ds≠.bad):∃k,ds=[.int k]:=by
 unfold kN at h;split at h
 ·exact⟨_,rfl⟩
 ·exact(h rfl).elim
def G3:bh ["self","many","left"] ["self","many"] (az (qF 2)):=⟨rfl,rfl,rfl,by decide +kernel,rfl,by decide +kernel,by decide +kernel⟩
def OG{f C:ae}{fd:aL}(F:Br K "drop" "Loom.drop" (qF 2) f fd)(T:Qi K mg C)(t:Tb K mg):vN P w K mg base (jz P w) 3 f fd ["self","many"] kN:=by
 obtain⟨oc,od,kV,doc,pm,an,cdv,ct,Bc,rfl,lk,hcd⟩:=F.ex;refine xh lk hcd G3 (λvs H Q E h=>?_) λA outer s H vs Q E hr h=>?_
 ·obtain⟨a,as,c,ds,ws,rfl,dp,i,h⟩:=h
  obtain⟨xs,rfl⟩:=DA (s:=c) (ds:=ds) λz=>by rw[z]at h;exact h
  obtain⟨v,rfl,_⟩:=tN i;rfl
 ·obtain⟨a,as,c,ds,ws,rfl,dp,i,h⟩:=h
  obtain⟨_,_,C',dx,p,b,us,h0,h1,h2,h3,h4,h5,h6,h7,h8,h9⟩:=dp;rw[T.lo.ns]at h0;cases h0;obtain⟨k,rfl⟩:=DA (s:=c) (ds:=ds) λz=>by rw[z]at h;exact h
  obtain⟨v,rfl,iv⟩:=tN i;obtain rfl:v=.int k:=iv;refine⟨_,dJ (wZ (PW.pt (pw_or (lJ oF (pv 1) nV (aI _)) (pw_or1 (lJ w9 (pv 1) (jH lK (by rfl) T.WH cW (aX (gm (pv 0) rfl) cX)) (aI _))))) (gr (BP t.wG hr.hd)) uG)
   (dJ (qI (i:=2) G3.nd rfl (cD rfl) (CA ji (jH lK (by rfl) T.WH cW (aX (gm (pv 0) rfl) cX)) (pv 1)))
   (dJ (lI (Gd yr Bw Bx oG (gm (pv 0) rfl) (aX (qK (aX l8 (aX (qL ym (gm (pv 0) rfl) (yk (pv 2)) yj) cX))) cX)) rfl)
   (gr (pJ (pv 0) (qL ym (gm (pv 0) rfl) yj (yk (pv 2))) rfl)))),?_⟩
  have lu:us.length=c.2.2.length:=h9.length;have sz:(1000000:Nat)<=aQ:=by decide
  have raise:(k<0\/(c.2.1.length:Int)<k)->∀(D:Ends)(σ:St),tS K (EW K E) (λ_=>.err "NoMove") D σ H:=λhk D σ=>⟨_,_,[],S8,λH' s'=>by unfold kN at h;simp only [if_pos hk]at h;exact h H' s'⟩
  refine⟨_,rfl,k,0,rfl,rfl,decide (k<0),rfl,?_⟩
  by_cases c1:k<0
  ·exact xB (decide_eq_true c1) (xB rfl (raise (.inl c1) _ _))
  ·refine zC (decide_eq_false c1) ?_
   refine⟨_,rfl,_,rfl,a,C,dx,_,_,rfl,h6,T.lo.cl,T.held,rfl,p,_,rfl,.inl (lB.of h7),k,_,rfl,rfl,decide (((c.2.1.map V.int).length:Int)<k),rfl,?_⟩;have lm:(c.2.1.map V.int).length=c.2.1.length:=gX _
   by_cases c2:(c.2.1.length:Int)<k
   ·exact xB (decide_eq_true (by rw[lm];exact c2)) (raise (.inr c2) _ _)
   ·refine zC (decide_eq_false (by rw[lm];exact c2)) ?_
    unfold kN at h;simp only [if_neg (show¬(k<0\/(c.2.1.length:Int)<k)from λz=>z.elim c1 c2)]at h
    by_cases hb2:c.2.2.length<1000000
    ·rw[if_pos hb2]at h
     refine⟨_,rfl,a,C,dx,_,_,rfl,h6,T.lo.cl,T.held,rfl,p,_,rfl,.inl (lB.of h7),_,rfl,_,k,rfl,rfl,?_⟩;refine⟨_,rfl,a,C,dx,_,_,rfl,h6,T.lo.cl,T.zB,rfl,.inl ⟨rfl,_,lB.of h8⟩,?_⟩;refine⟨_,rfl,a,C,dx,_,_,rfl,h6,T.lo.cl,T.held,rfl,_,rfl,_,rfl,p,_,rfl,lB.of h7,λj hj=>⟨by show 2<=aQ;decide,λq hq=>?_⟩⟩;rw[lm]at hq⊢;rw[wK]at hq⊢;have nj:∀x o,H x=aa o->x≠j:=λx o hx=>bE hx hj;have jq:j≠q:=bE aV hq;have nq:∀x o,H x=aa o->x≠q:=λx o hx=>bE (by rw[aM (nj _ _ hx)];exact hx) hq;refine⟨b,us,.ref q,rfl,rfl,by rw[aM (nq _ _ h8),aM (nj _ _ h8)];exact h8,by omega,?_⟩;generalize hH2:upd (upd (upd H j (.lst ((cut c.2.1 (aa (c.2.1.length-k)) none).map V.int))) q (.tup [.str "join",.ref j])) b (.lst (us++[.ref q]))=H2;have ab:a≠b:=λe=>h4 (e▸h2);have old:∀x o,x≠b->H x=aa o->H2 x=aa o:=λx o hb hx=>by rw[<-hH2,aM hb,aM (nq _ _ hx),aM (nj _ _ hx)];exact hx
     have a2:=old a _ ab h6;have p2:=old p _ h3 h7;have bj:b≠j:=nj _ _ h8;have bq:b≠q:=nq _ _ h8;have b2:H2 b=aa (.lst (us++[.ref q])):=(by rw[<-hH2];exact aV);have q2:H2 q=aa (.tup [.str "join",.ref j]):=(by rw[<-hH2,aM bq.symm];exact aV);have j2:H2 j=aa (.lst ((cut c.2.1 (aa (c.2.1.length-k)) none).map V.int)):=(by rw[<-hH2,aM bj.symm,aM jq];exact aV);refine⟨_,rfl,a,C,dx,_,_,rfl,a2,T.lo.cl,T.held,rfl,_,rfl,_,rfl,p,_,rfl,lB.of p2,λr hr=>?_⟩;have nr:∀x o,H2 x=aa o->x≠r:=λx o hx=>bE hx hr;refine⟨_,rfl,a,C,dx,_,rfl,by rw[aM (nr _ _ a2)];exact a2,T.lo.cl,T.held,by show 3<1000;decide,?_⟩;rw[wK];generalize Fb:upd (upd H2 r (.lst ((cut c.2.1 none (aa (c.2.1.length-k))).map V.int))) a (.ins C dx (mf "held" (.ref r) [("n",.int c.1),("held",.ref p),("backs",.ref b)]))=H3;have ar:a≠r:=nr _ _ a2;have o3:∀x o,x≠a->H2 x=aa o->H3 x=aa o:=λx o hx hz=>by rw[<-Fb,aM hx,aM (nr _ _ hz)];exact hz
     have a3:H3 a=aa (.ins C dx [("n",.int c.1),("held",.ref r),("backs",.ref b)]):=(by rw[<-Fb];exact aV);have r3:H3 r=aa (.lst ((cut c.2.1 none (aa (c.2.1.length-k))).map V.int)):=(by rw[<-Fb,aM ar.symm];exact aV);have qa:q≠a:=λe=>nq _ _ h6 e.symm;have ja:j≠a:=λe=>nj _ _ h6 e.symm;have q3:=o3 q _ qa q2;have j3:=o3 j _ ja j2;have hnone:∀z,z≠b->H2 z=none->H z=none:=λz hz hn=>by
      cases y:H z with
      |none=>rfl
      |some o=>rw[old z o hz y]at hn;cases hn
     have rb:r≠b:=λe=>nr _ _ b2 e.symm;have fq:H q=none:=by
      cases y:H q with
      |none=>rfl
      |some o=>exact(nq q o y rfl).elim
     have fr:H r=none:=hnone r rb hr;obtain⟨st,dp⟩:=Fc (K:=K) (H:=H) (H3:=H3) (new:=[q,j,r]) (p':=r) (us':=us++[.ref q]) (ds':=c.2.2++[.tup [.str "join",.lst (cH (cut c.2.1 (aa (c.2.1.length-k)) none))]]) T.lo.ns h2 h4 (λx hx=>(bR.mp hx).elim (λe=>e▸⟨_,h6⟩) (h5 x))
      (λx hx=>by
       simp only [bR,jM,or_false]at hx;rcases hx with rfl|rfl|rfl
       ·exact⟨fq,_,q3⟩
       ·exact⟨hj,_,j3⟩
       ·exact⟨fr,_,r3⟩) (by simp) a3 r3 (o3 b _ ab.symm b2) (λx o hx hb hz=>o3 x o hx (old x o hb hz))
      (IsL.app (IsL.ext ⟨λx o pz hx=>⟨fY _ pz.1,λe=>(by rw[e,fr]at hx;cases hx),pz.2.2⟩,λx o pz hx=>o3 x o (λe=>h4 (e▸pz.1)) (old x o pz.2.2 hx)⟩ _ _ h9)
       ⟨.ref q,[],rfl,⟨q,_,rfl,.inl ⟨⟨by simp,nr _ _ q2,bq.symm⟩,.inl q3⟩,⟨_,_,rfl,rfl,_,_,rfl,⟨j,_,rfl,.inl ⟨⟨by simp,nr _ _ j2,bj.symm⟩,.inl j3⟩,iS _⟩,rfl⟩⟩,rfl⟩)
     exact h .non H3 _ st dp rfl
    ·rw[if_neg hb2]at h
     exact h.elim
end
end DL.oh
namespace DL.oh
open PySem PySem.Spec PyProof.Rows L2 DL
section
variable{P:aO}{w:aD}{K:aj}{mg:Str->Option ah}{base:au}
noncomputable def jZ(n:Int)(ns:List Int):D->R (List Int)
 |.tup [.str t,d]=>if t="cut" then(match d with
   |.int k=>.ok (cut ns none (aa k))
   |_=>.bad)else if t="join" then(match d with
   |.lst xs=>(R.of (Ck xs)).bind λu=>if ns.length+u.length<1000000 then .ok (ns++u)else .bad
   |_=>.bad)else(nE [.int n,.lst (cH ns),d]).bind λxs=>R.of (Ck xs)
 |_=>.bad
def lE(s:gq)(ds:List D):R (D×gq):=match ds with
 |[]=>if s.2.2=[]then .ok (.bl false,s)else(R.of (s.2.2.getLast?)).bind λd=>(jZ s.1 s.2.1 d).ne.bind λns=>.ok (.bl true,s.1,ns,s.2.2.dropLast)
 |_=>.bad
theorem Lg{P:ae->Prop}{H:Hp}{d:D}:∀{ds:List D}{ws:List V},IsL K P H (ds++[d]) ws->∃us v,ws=us++[v]/\IsL K P H ds us/\Is K P H d v
 |[],ws,h=>by obtain⟨v,e,h1⟩:=tN h;exact⟨[],v,e,rfl,h1⟩
 |x::ds,ws,h=>by obtain⟨v,r,rfl,h1,h2⟩:=h;obtain⟨us,z,rfl,h3,h4⟩:=Lg h2;exact⟨v::us,z,rfl,⟨v,us,rfl,h1,h3⟩,h4⟩
def Lh{n:Int}{ns:List Int}{d:D}(h:jZ n ns d≠.bad):∃t d2,d=.tup [.str t,d2]:=by
 unfold jZ at h;split at h
 ·exact⟨_,_,rfl⟩
 ·exact(h rfl).elim
def G4:bh ["self","back"] ["self"] (az (qF 4)):=⟨rfl,rfl,rfl,by decide +kernel,rfl,by decide +kernel,by decide +kernel⟩
def OH{f C:ae}{fd:aL}(F:Br K "undo" "Loom.undo" (qF 4) f fd)(T:Qi K mg C)(t:Tb K mg)(G:Lw P w K mg base 5 t.sE t.sF ["n","word","move"] nE):vN P w K mg base lL 6 f fd ["self"] lE:=by
 refine F.ok G4 (λvs H Q E h=>?_) (λcdv A outer s H vs Q E hr h=>?_)
 ·obtain⟨a,as,c,ds,ws,rfl,dp,i,h⟩:=h
  cases ds with
  |nil=>rw[show ws=[]from i];rfl
  |cons _ _=>exact h.elim
 ·obtain⟨a,as,c,ds,ws,rfl,dp,i,h⟩:=h
  have dp0:=dp;obtain⟨_,_,C',dx,p,b,us,h0,h1,h2,h3,h4,h5,h6,h7,h8,h9⟩:=dp;rw[T.lo.ns]at h0;cases h0;cases ds with
  |cons _ _=>exact h.elim
  |nil=>
  obtain rfl:ws=[]:=i;refine⟨_,dJ (wZ (lJ IP (jH lK (by rfl) T.WH cW (aX (gm (pv 0) rfl) cX)) nV (aI _)) (gr (l9 ID)) uG)
   (dJ (qI (i:=1) G4.nd rfl (cD rfl) (QP yr PySem.F.slot_list_pop PySem.F.type_list_pop QQ (gm (pv 0) rfl)))
   (dJ (wZ (lJ (bW (bB.u6 hr)) (sV qM (pv 1) nV (λ_ _=>rfl)) l8 (aI _)) (gr (pJ (pv 0) (qL ym (gm (pv 0) rfl) yj (yk (sV qM (pv 1) nV (λ_ _=>rfl)))) rfl))
    (gr (wZ (lJ (bW (bB.u6 hr)) (sV qM (pv 1) nV (λ_ _=>rfl)) l8 (aI _)) (gr (pJ (pv 0) (CA Bv (gm (pv 0) rfl) (sV qM (pv 1) nV (λ_ _=>rfl))) rfl))
     (gr (pJ (pv 0) (kC (E:=λ_ _ _=>False) G (hr.mono (by decide)) (by rfl) t.nH.m t.nH.F.kp t.nH.b .nil sW (aX (gm (pv 0) rfl) (aX (gm (pv 0) rfl) (aX (sV qM (pv 1) nV (λ_ _=>rfl)) cX)))) rfl)))))
   (gr (l9 ID)))),?_⟩
  have lu:us.length=c.2.2.length:=h9.length;unfold lE at h;dsimp only at h
  by_cases ce:c.2.2=[]
  ·rw[if_pos ce]at h
   have l0:us.length=0:=(by rw[lu,ce];rfl);refine⟨_,rfl,a,C,dx,_,_,rfl,h6,T.lo.cl,T.zB,rfl,b,us,rfl,.inl (lB.of h8),?_⟩;refine⟨rfl,_,rfl,xB (decide_eq_true (by rw[l0];rfl)) ?_⟩;exact h (.bl false) H as (lZ.refl H _) dp0 rfl
  ·rw[if_neg ce]at h
   have ed:=List.dropLast_concat_getLast ce;rw[List.getLast?_eq_some_getLast ce]at h;rw[<-ed]at h9;generalize c.2.2.getLast ce=d at h h9 ed;obtain⟨VD,y,rfl,i0,iy⟩:=Lg h9;have l1:¬((VD++[y]).length:Int)=0:=(by rw[bz,Bq];omega);refine⟨_,rfl,a,C,dx,_,_,rfl,h6,T.lo.cl,T.zB,rfl,b,_,rfl,.inl (lB.of h8),rfl,_,rfl,zC (decide_eq_false λz=>l1 (V.int.inj z)) ?_⟩;refine⟨_,rfl,a,C,dx,_,_,rfl,h6,T.lo.cl,T.zB,rfl,.inl ⟨rfl,_,lB.of h8⟩,b,_,y,rfl,rfl,h8,by simp,?_⟩;rw[OI];simp only [R.jJ,R.cg]at h;cases eb:jZ c.1 c.2.1 d with
   |bad=>rw[eb]at h;exact h.elim
   |err n=>rw[eb]at h;exact h.elim
   |ok ns'=>
   rw[eb]at h;have h':∀(v:V)(H':Hp)(mV:List ae),lZ H (a::as) H' (a::mV)->Dp K H' (a::mV) a mV (e7 none (c.1,ns',c.2.2.dropLast))->toV (.bl true)=aa v->Q v H':=h;obtain⟨tg,d2,rfl⟩:=Lh (n:=c.1) (ns:=c.2.1) (d:=d) λz=>by rw[z]at eb;cases eb
   generalize hH1:upd H b (.lst VD)=H1;have ab:a≠b:=λe=>h4 (e▸h2);have o1:∀x o,x≠b->H x=aa o->H1 x=aa o:=λx o hb hx=>by rw[<-hH1,aM hb];exact hx
   have a1:=o1 a _ ab h6;have p1:=o1 p _ h3 h7;have b1:H1 b=aa (.lst VD):=(by rw[<-hH1];exact aV);obtain⟨q,ws,rfl,tq,iq⟩:=Is.ext (d:=.tup [.str tg,d2]) (P':=λx=>x∈as/\x≠p/\x≠b) (H':=H1) ⟨λ_ _ pz _=>pz,λx o pz hx=>o1 x o pz.2.2 hx⟩ _ iy;obtain⟨v1,r1,rfl,e1,i2⟩:=iq;obtain rfl:v1=.str tg:=e1;obtain⟨v2,rfl,j2⟩:=tN i2;clear i2;have fin:∀(Hx:Hp)(r:ae),bS H1 Hx->H1 r=none->Hx r=aa (.lst (ns'.map V.int))->Q (.bl true) (upd Hx a (.ins C dx (mf "held" (.ref r) [("n",.int c.1),("held",.ref p),("backs",.ref b)]))):=λHx r sx hr hx=>by
    have ra:r≠a:=λe=>by rw[e,a1]at hr;cases hr
    have rb:r≠b:=λe=>by rw[e,b1]at hr;cases hr
    have hr0:H r=none:=by
     cases y:H r with
     |none=>rfl
     |some o=>rw[o1 r o rb y]at hr;cases hr
    obtain⟨st,dp⟩:=Fc (K:=K) (H:=H) (H3:=upd Hx a (.ins C dx (mf "held" (.ref r) [("n",.int c.1),("held",.ref p),("backs",.ref b)]))) (new:=[r]) (p':=r) (us':=VD) (ds':=c.2.2.dropLast) (n':=c.1) (ns':=ns') T.lo.ns h2 h4 (λx hx=>(bR.mp hx).elim (λe=>e▸⟨_,h6⟩) (h5 x))
     (λx hm=>by rw[Cb.mp hm];exact⟨hr0,_,by rw[aM ra];exact hx⟩) (by simp) aV (by rw[aM ra];exact hx) (by rw[aM ab.symm];exact sx _ _ b1) (λx o hx hb hz=>by rw[aM hx];exact sx _ _ (o1 x o hb hz))
     (IsL.ext ⟨λx o pz hx=>⟨fY _ pz.1,λe=>(by rw[e,hr0]at hx;cases hx),pz.2.2⟩,λx o pz hz=>by have xa:x≠a:=λe=>h4 (e▸pz.1);rw[aM xa];exact sx _ _ (o1 x o pz.2.2 hz)⟩ _ _ i0)
    exact h' _ _ _ st dp rfl
   refine⟨_,rfl,q,_,0,_,rfl,rfl,tq.sq,rfl,.str tg,.str "cut",tg=="cut",rfl,rfl,rfl,_,rfl,?_⟩;have S9:([("n",V.int c.1),("held",.ref p),("backs",.ref b)]:List (Str×V)).length<1000:=by show 3<1000;decide
   by_cases t1:tg="cut"
   ·refine xB (beq_iff_eq.mpr t1) ?_
    unfold jZ at eb;simp only [if_pos t1]at eb;split at eb
    ·rename_i _ k
     cases eb;obtain rfl:v2=.int k:=j2;refine⟨_,rfl,a,C,dx,_,_,rfl,a1,T.lo.cl,T.held,rfl,_,rfl,q,_,1,_,rfl,rfl,tq.sq,rfl,k,rfl,p,_,rfl,lB.of p1,λr hr=>?_⟩;refine⟨_,rfl,a,C,dx,_,rfl,by rw[aM (bE a1 hr)];exact a1,T.lo.cl,T.held,S9,?_⟩;exact fin _ r (d8 hr _) hr (by rw[<-wK];exact aV)
    ·cases eb
   ·refine zC (beq_eq_false_iff_ne.mpr t1) ?_
    refine⟨_,rfl,q,_,0,_,rfl,rfl,tq.sq,rfl,.str tg,.str "join",tg=="join",rfl,rfl,rfl,_,rfl,?_⟩;unfold jZ at eb;simp only [if_neg t1]at eb
    by_cases t2:tg="join"
    ·refine xB (beq_iff_eq.mpr t2) ?_
     simp only [if_pos t2]at eb;split at eb
     ·rename_i _ xs
      cases et:Ck xs with
      |none=>rw[et]at eb;cases eb
      |some u=>
       rw[et]at eb;have Qj:(if c.2.1.length+u.length<1000000 then R.ok (c.2.1++u)else .bad)=.ok ns':=eb;split at Qj
       ·rename_i hl
        cases Qj;have eu:=wc et;subst eu;obtain⟨l,vs,rfl,lat,il⟩:=j2;have ev:=si il;subst ev;have sz:(1000000:Nat)<=aQ:=(by decide);refine⟨_,rfl,a,C,dx,_,_,rfl,a1,T.lo.cl,T.held,rfl,_,rfl,q,_,1,_,rfl,rfl,tq.sq,rfl,p,l,_,_,rfl,rfl,lB.of p1,lat.sq,by rw[gX,gX];omega,λr hr=>?_⟩;refine⟨_,rfl,a,C,dx,_,rfl,by rw[aM (bE a1 hr)];exact a1,T.lo.cl,T.held,S9,?_⟩;exact fin _ r (d8 hr _) hr (by rw[u9];exact aV)
       ·cases Qj
     ·cases eb
    ·refine zC (beq_eq_false_iff_ne.mpr t2) ?_
     simp only [if_neg t2]at eb;refine⟨_,rfl,a,C,dx,_,_,rfl,a1,T.lo.cl,T.n,rfl,_,rfl,a,C,dx,_,_,rfl,a1,T.lo.cl,T.held,rfl,_,rfl,q,_,1,_,rfl,rfl,tq.sq,rfl,λ_=>True,[.int c.1,.lst (cH c.2.1),d2],⟨_,_,rfl,rfl,_,_,rfl,⟨p,_,rfl,.inl ⟨trivial,.inl p1⟩,iS _⟩,_,_,rfl,j2.weak,rfl⟩,?_⟩;cases em:nE [.int c.1,.lst (cH c.2.1),d2]with
     |bad=>rw[em]at eb;cases eb
     |err n=>rw[em]at eb;cases eb
     |ok xs=>
      rw[em]at eb;have Qj:R.of (Ck xs)=.ok ns':=eb;cases et:Ck xs with
      |none=>rw[et]at Qj;cases Qj
      |some u=>
       rw[et]at Qj;cases Qj;have eu:=wc et;subst eu;intro r vs Hx sx hr hx il;have ev:=si il;subst ev;exact⟨_,rfl,a,C,dx,_,rfl,sx _ _ a1,T.lo.cl,T.held,S9,fin Hx r sx hr hx⟩
end
end DL.oh
namespace DL.oh
open PySem PySem.Spec PyProof.Rows L2 DL
noncomputable def VE(K:aj)(m:List D->R (List D)):Sp:=λvs H Q E=>∃P ds,IsL K P H ds vs/\match m ds with
 |.ok xs=>∀(z:ae)(zs:List V)(H':Hp),bS H H'->H z=none->H' z=aa (.tup zs)->IsL K (λ_=>False) H' xs zs->Q (.ref z) H'
 |.err c=>∀H',bS H H'->E (yB K c) none H'
 |.bad=>False
section
variable{P:aO}{w:aD}{K:aj}{mg:Str->Option ah}{base:au}
noncomputable def Fd(ds:List D):R (List D):=match ds with
 |[.int n,.lst xs,.tup (.str nm::.int p::rest)]=>(bC [.int n,.lst xs,.tup (.str nm::.int p::rest)]).bind λ_=>match Ck xs with
  |some ns=>if nm="out" then(R.of (nA ns p)).bind λk=>.ok [.str "in",.int p,.int k]else if nm="in" then .ok [.str "out",.int p]else .ok [.str nm,.int p]
  |none=>.bad
 |_=>.bad
def Li{ds:List D}(h:Fd ds≠.bad):∃n xs nm p rest,ds=[.int n,.lst xs,.tup (.str nm::.int p::rest)]:=by
 unfold Fd at h;split at h
 ·exact⟨_,_,_,_,_,rfl⟩
 ·exact(h rfl).elim
def Lj:bh ["n","word","move","name","p"] ["n","word","move"] (az pW):=⟨rfl,rfl,rfl,by decide +kernel,rfl,by decide +kernel,by decide +kernel⟩
def VF(t:Tb K mg)(G:CY P w K mg base 4 t.dO t.dP ["n","word","move"] bC):fz P w K mg base (jz P w) 5 t.jt t.ju ["n","word","move"] (VE K Fd):=by
 obtain⟨oc,od,kV,doc,pm,an,cdv,ct,Bc,e0,lk,hcd⟩:=t.jv.F.ex;rw[e0]at lk⊢;refine xh lk hcd Lj (λvs H Q E h=>?_) λA outer s H vs Q E hr h=>?_
 ·obtain⟨Pa,ds,i,h⟩:=h
  obtain⟨n,xs,nm,p,rest,rfl⟩:=Li (ds:=ds) λz=>by rw[z]at h;exact h
  rw[i.length];rfl
 ·obtain⟨Pa,ds,i,h⟩:=h
  obtain⟨n,xs,nm,p,rest,rfl⟩:=Li (ds:=ds) λz=>by rw[z]at h;exact h
  obtain⟨v0,r0,rfl,rfl,v1,r1,rfl,i1,v2,r2,rfl,i2,rfl⟩:=i;obtain⟨l,ws,rfl,lat,il⟩:=i1;obtain⟨q,us,rfl,tq,u0,VD,rfl,rfl,u1,Y9,rfl,rfl,iu⟩:=i2;refine⟨_,dJ (lI (kC (E:=EX (yB K) λn H'=>E (yB K n) none H') G (hr.mono (by decide)) (by rfl) t.dQ.m t.dQ.F.kp t.dQ.b .nil CW (aX (pv 0) (aX (pv 1) (aX (pv 2) cX)))) rfl)
   (dJ (qI (i:=3) Lj.nd rfl (cD rfl) (sV qM (pv 2) nV (λ_ _=>rfl)))
   (dJ (qI (i:=4) Lj.nd rfl (cD rfl) (sV qM (pv 2) nV (λ_ _=>rfl)))
   (dJ (wZ (lJ IP (pv 3) l8 (aI _)) (gr (l9 (qK (aX l8 (aX (pv 4) (aX (sV Bm (pv 1) (pv 4) (λ_ _=>rfl)) cX)))))) uG)
   (dJ (wZ (lJ IP (pv 3) l8 (aI _)) (gr (l9 (qK (aX l8 (aX (pv 4) cX))))) uG)
   (gr (l9 (qK (aX (pv 3) (aX (pv 4) cX))))))))),?_⟩
  refine⟨_,rfl,_,rfl,_,rfl,Pa,[.int n,.lst xs,.tup (.str nm::.int p::rest)],⟨_,_,rfl,rfl,_,_,rfl,⟨l,ws,rfl,lat,il⟩,_,_,rfl,⟨q,_,rfl,tq,_,_,rfl,rfl,_,_,rfl,rfl,iu⟩,rfl⟩,?_⟩;unfold Fd at h;cases em:bC [.int n,.lst xs,.tup (.str nm::.int p::rest)]with
  |bad=>simp only [em]at h;exact h
  |err nm=>simp only [em]at h;exact λH' s'=>⟨nm,rfl,h H' s'⟩
  |ok d=>
   simp only [em,R.cg]at h;intro v1 H1 s1 _;cases et:Ck xs with
   |none=>simp only [et]at h
   |some ns=>
    simp only [et]at h;have eu:=wc et;subst eu;have ev:=si il;subst ev;have tq1:DR K H1 q (.str nm::.int p::Y9):=tq.elim (λz=>.inl (z.2.elim (λy=>.inl (s1 _ _ y)) λ⟨o,y⟩=>.inr ⟨o,s1 _ _ y⟩)) .inr;refine⟨_,rfl,q,_,0,.str nm,rfl,rfl,tq1,Gb (show(V.str nm::V.int p::Y9)[0]?=_ from rfl),_,rfl,q,_,1,.int p,rfl,rfl,tq1,Gb (show(V.str nm::V.int p::Y9)[1]?=_ from rfl),?_⟩;have Za:lB K H1 l (ns.map V.int):=lat.elim (λz=>.inl (z.2.elim (λy=>.inl (s1 _ _ y)) λ⟨o,y⟩=>.inr ⟨o,s1 _ _ y⟩)) .inr;have sq:∀(ys:List V)(QT:List D),IsL K (λ_=>False) H1 QT ys->ys.length<=3->(∀(z:ae)(H':Hp),bS H H'->H z=none->H' z=aa (.tup ys)->IsL K (λ_=>False) H' QT ys->Q (.ref z) H')->ys.length<=aQ/\∀z,H1 z=none->Q (.ref z) (upd H1 z (.tup ys)):=λys QT iy hl k=>⟨gW hl (by decide),λz hz=>k z _ (s1.trans (d8 hz _)) (s1.free hz) aV (IsL.ext ⟨λ_ _ pz _=>pz,λ_ _ pz _=>pz.elim⟩ _ _ iy)⟩
    refine⟨_,rfl,rfl,_,rfl,?_⟩
    by_cases t1:nm="out"
    ·refine xB (decide_eq_true (by rw[t1])) ?_
     rw[if_pos t1]at h;cases ea:nA ns p with
     |none=>rw[ea]at h;exact h.elim
     |some k=>
      rw[ea]at h;refine⟨_,rfl,_,rfl,_,rfl,l,_,p,.int k,rfl,rfl,Za,?_,sq _ [.str "in",.int p,.int k] ⟨_,_,rfl,rfl,_,_,rfl,rfl,_,_,rfl,rfl,rfl⟩ (by simp) λz H' a1 a2 a3 a4=>h z _ H' a1 a2 a3 a4⟩;unfold nA at ea⊢;rw[gX];cases hj:Hq ns.length p with
      |none=>rw[hj]at ea;cases ea
      |some j=>
       rw[hj]at ea;have ea':ns[j]?=aa k:=ea;show(ns.map V.int)[j]?=_;rw[dZ,ea'];rfl
    ·refine zC (decide_eq_false λz=>t1 (V.str.inj z)) ?_
     rw[if_neg t1]at h;refine⟨_,rfl,rfl,_,rfl,?_⟩
     by_cases t2:nm="in"
     ·refine xB (decide_eq_true (by rw[t2])) ?_
      rw[if_pos t2]at h;exact⟨_,rfl,sq _ [.str "out",.int p] ⟨_,_,rfl,rfl,_,_,rfl,rfl,rfl⟩ (by simp) λz H' a1 a2 a3 a4=>h z _ H' a1 a2 a3 a4⟩
     ·refine zC (decide_eq_false λz=>t2 (V.str.inj z)) ?_
      rw[if_neg t2]at h;exact⟨_,rfl,_,rfl,sq _ [.str nm,.int p] ⟨_,_,rfl,rfl,_,_,rfl,rfl,rfl⟩ (by simp) λz H' a1 a2 a3 a4=>h z _ H' a1 a2 a3 a4⟩
end
end DL.oh
namespace DL.oh
open PySem PySem.Spec PyProof.Rows L2 DL
section
variable{P:aO}{w:aD}{K:aj}{mg:Str->Option ah}{base:au}
noncomputable def D3(s:gq)(ds:List D):R (D×gq):=match ds with
 |[d]=>(Fd [.int s.1,.lst (cH s.2.1),d]).bind λxs=>(nE [.int s.1,.lst (cH s.2.1),d]).ne.bind λys=>match Ck ys with
  |some ns=>if s.2.2.length<1000000 then .ok (.non,s.1,ns,s.2.2++[.tup [.str "go",.tup xs]])else .bad
  |none=>.bad
 |_=>.bad
def Lk{s:gq}{ds:List D}(h:D3 s ds≠.bad):∃d,ds=[d]:=by
 unfold D3 at h;split at h
 ·exact⟨_,rfl⟩
 ·exact(h rfl).elim
def Qk:bh ["self","move","back"] ["self","move"] (az (qF 3)):=⟨rfl,rfl,rfl,by decide +kernel,rfl,by decide +kernel,by decide +kernel⟩
def VG{f C:ae}{fd:aL}(F:Br K "go" "Loom.go" (qF 3) f fd)(T:Qi K mg C)(t:Tb K mg)(GB:fz P w K mg base (jz P w) 5 t.jt t.ju ["n","word","move"] (VE K Fd))(G:Lw P w K mg base 5 t.sE t.sF ["n","word","move"] nE):vN P w K mg base (jz P w) 6 f fd ["self","move"] D3:=by
 obtain⟨oc,od,kV,doc,pm,an,cdv,ct,Bc,rfl,lk,hcd⟩:=F.ex;refine xh lk hcd Qk (λvs H Q E h=>?_) λA outer s H vs Q E hr h=>?_
 ·obtain⟨a,as,c,ds,ws,rfl,dp,i,h⟩:=h
  obtain⟨d,rfl⟩:=Lk (s:=c) (ds:=ds) λz=>by rw[z]at h;exact h
  obtain⟨v,rfl,_⟩:=tN i;rfl
 ·obtain⟨a,as,c,ds,ws,rfl,dp,i,h⟩:=h
  obtain⟨_,_,C',dx,p,b,us,h0,h1,h2,h3,h4,h5,h6,h7,h8,h9⟩:=dp;rw[T.lo.ns]at h0;cases h0;obtain⟨d,rfl⟩:=Lk (s:=c) (ds:=ds) λz=>by rw[z]at h;exact h
  obtain⟨mv,rfl,iv⟩:=tN i;have lu:us.length=c.2.2.length:=h9.length;have sz:(1000000:Nat)<=aQ:=by decide
  refine⟨_,dJ (qI (i:=2) Qk.nd rfl (cD rfl) (kC (E:=EX (yB K) λn H'=>E (yB K n) none H') GB (hr.mono (by decide)) (by rfl) t.jv.m t.jv.F.kp t.jv.b .nil CW (aX (gm (pv 0) rfl) (aX (gm (pv 0) rfl) (aX (pv 1) cX)))))
   (dJ (lI (Gd yr Bw Bx oG (gm (pv 0) rfl) (aX (qK (aX l8 (aX (pv 2) cX))) cX)) rfl)
   (gr (pJ (pv 0) (kC (E:=λ_ _ _=>False) G (hr.mono (by decide)) (by rfl) t.nH.m t.nH.F.kp t.nH.b .nil sW (aX (gm (pv 0) rfl) (aX (gm (pv 0) rfl) (aX (pv 1) cX)))) rfl))),?_⟩
  refine⟨_,rfl,a,C,dx,_,_,rfl,h6,T.lo.cl,T.n,rfl,_,rfl,a,C,dx,_,_,rfl,h6,T.lo.cl,T.held,rfl,_,rfl,λ_=>True,[.int c.1,.lst (cH c.2.1),d],⟨_,_,rfl,rfl,_,_,rfl,⟨p,_,rfl,.inl ⟨trivial,.inl h7⟩,iS _⟩,_,_,rfl,iv.weak,rfl⟩,?_⟩;unfold D3 at h;cases em:Fd [.int c.1,.lst (cH c.2.1),d]with
  |bad=>simp only [em]at h;exact h
  |err n=>simp only [em]at h;exact λH' s'=>⟨n,rfl,h H' s'⟩
  |ok xs=>
   simp only [em,R.cg]at h;cases eo:nE [.int c.1,.lst (cH c.2.1),d]with
   |bad=>simp only [eo]at h;exact h.elim
   |err n=>simp only [eo]at h;exact h.elim
   |ok ys=>
   simp only [eo,R.ne,R.cg]at h;cases et:Ck ys with
   |none=>simp only [et]at h
   |some ns'=>
   simp only [et]at h
   by_cases hb2:c.2.2.length<1000000
   ·rw[if_pos hb2]at h
    have eu:=wc et;subst eu;intro j zs H1 s1 hj hzj iz;have k6:=s1 _ _ h6;have k8:=s1 _ _ h8;refine⟨_,rfl,a,C,dx,_,_,rfl,k6,T.lo.cl,T.zB,rfl,.inl ⟨rfl,_,lB.of k8⟩,_,rfl,by show 2<=aQ;decide,λq hq=>?_⟩;have nq:∀x o,H1 x=aa o->x≠q:=λx o hx=>bE hx hq;refine⟨b,us,.ref q,rfl,rfl,by rw[aM (nq _ _ k8)];exact k8,by omega,?_⟩;generalize hH2:upd (upd H1 q (.tup [.str "go",.ref j])) b (.lst (us++[.ref q]))=H2;have ab:a≠b:=λe=>h4 (e▸h2);have VH:∀x o,x≠b->H1 x=aa o->H2 x=aa o:=λx o hb hx=>by rw[<-hH2,aM hb,aM (nq _ _ hx)];exact hx
    have old:∀x o,x≠b->H x=aa o->H2 x=aa o:=λx o hb hx=>VH x o hb (s1 _ _ hx);have a2:=old a _ ab h6;have p2:=old p _ h3 h7;have bq:b≠q:=nq _ _ k8;have bj:b≠j:=bE h8 hj;have b2:H2 b=aa (.lst (us++[.ref q])):=(by rw[<-hH2];exact aV);have q2:H2 q=aa (.tup [.str "go",.ref j]):=(by rw[<-hH2,aM bq.symm];exact aV);have j2:=VH j _ bj.symm hzj;have UT:=Is.ext (d:=d) (P':=λx=>x∉a::as) (H':=H2) ⟨λ_ _ pz _=>pz,λx o pz hx=>old x o (λe=>pz (e▸cP _ h2)) hx⟩ _ iv;refine⟨_,rfl,a,C,dx,_,_,rfl,a2,T.lo.cl,T.n,rfl,_,rfl,a,C,dx,_,_,rfl,a2,T.lo.cl,T.held,rfl,_,rfl,λ_=>True,[.int c.1,.lst (cH c.2.1),d],⟨_,_,rfl,rfl,_,_,rfl,⟨p,_,rfl,.inl ⟨trivial,.inl p2⟩,iS _⟩,_,_,rfl,UT.weak,rfl⟩,?_⟩;rw[eo];intro r Bt H3' s3 hr hr3 il3;have ev:=si il3;subst ev;refine⟨_,rfl,a,C,dx,_,rfl,s3 _ _ a2,T.lo.cl,T.held,by show 3<1000;decide,?_⟩;generalize Fb:upd H3' a (.ins C dx (mf "held" (.ref r) [("n",.int c.1),("held",.ref p),("backs",.ref b)]))=H3;have o3:∀x o,x≠a->H2 x=aa o->H3 x=aa o:=λx o hx hz=>by rw[<-Fb,aM hx];exact s3 _ _ hz
    have nr:∀x o,H2 x=aa o->x≠r:=λx o hx=>bE hx hr;have ra:r≠a:=λe=>nr _ _ a2 e.symm;have rb:r≠b:=λe=>nr _ _ b2 e.symm;have r3:H3 r=aa (.lst (ns'.map V.int)):=(by rw[<-Fb,aM ra];exact hr3);have a3:H3 a=aa (.ins C dx [("n",.int c.1),("held",.ref r),("backs",.ref b)]):=(by rw[<-Fb];exact aV);have qa:q≠a:=λe=>nq _ _ k6 e.symm;have ja:j≠a:=λe=>bE h6 hj e.symm;have q3:=o3 q _ qa q2;have j3:=o3 j _ ja j2;have fr:H r=none:=by
     cases y:H r with
     |none=>rfl
     |some o=>rw[old r o rb y]at hr;cases hr
    obtain⟨st,dp⟩:=Fc (K:=K) (H:=H) (H3:=H3) (new:=[q,j,r]) (p':=r) (us':=us++[.ref q]) (ds':=c.2.2++[.tup [.str "go",.tup xs]]) T.lo.ns h2 h4 (λx hx=>(bR.mp hx).elim (λe=>e▸⟨_,h6⟩) (h5 x))
     (λx hx=>by
      simp only [bR,jM,or_false]at hx;rcases hx with rfl|rfl|rfl
      ·exact⟨s1.free hq,_,q3⟩
      ·exact⟨hj,_,j3⟩
      ·exact⟨fr,_,r3⟩) (by simp) a3 r3 (o3 b _ ab.symm b2) (λx o hx hb hz=>o3 x o hx (old x o hb hz))
     (IsL.app (IsL.ext ⟨λx o pz hx=>⟨fY _ pz.1,λe=>(by rw[e,fr]at hx;cases hx),pz.2.2⟩,λx o pz hx=>o3 x o (λe=>h4 (e▸pz.1)) (old x o pz.2.2 hx)⟩ _ _ h9)
      ⟨.ref q,[],rfl,⟨q,_,rfl,.inl ⟨⟨by simp,nr _ _ q2,bq.symm⟩,.inl q3⟩,⟨_,_,rfl,rfl,_,_,rfl,⟨j,_,rfl,.inl ⟨⟨by simp,nr _ _ j2,bj.symm⟩,.inl j3⟩,IsL.ext ⟨λ_ _ pz _=>pz.elim,λ_ _ pz _=>pz.elim⟩ _ _ iz⟩,rfl⟩⟩,rfl⟩)
    exact h .non H3 _ st dp rfl
   ·rw[if_neg hb2]at h
    exact h.elim
end
end DL.oh
namespace DL.oh
open PySem PySem.Spec PyProof.Rows L2 DL
abbrev VI:aB:=qF 0
abbrev VJ:aB:=qF 1
abbrev VL:aB:=qF 2
abbrev VM:aB:=qF 3
abbrev VN:aB:=qF 4
abbrev VO:aB:=qF 5
structure TL(K:aj)(mg:Str->Option ah) where
 C:ae
 T:Qi K mg C
 mc:mg "Loom"=aa (.ref C)
 fi:ae
 di:aL
 MK:Mk K C fi
 Bi:Binds K di ["self","n"] []
 fh:ae
 dh:aL
 Mh:Meth K C "hang" fh
 Bh:Binds K dh ["self","word"] []
 fd:ae
 dd:aL
 Md:Meth K C "drop" fd
 Bd:Binds K dd ["self","many"] []
 fg:ae
 dg:aL
 Mg:Meth K C "go" fg
 Bg:Binds K dg ["self","move"] []
 fu:ae
 du:aL
 Mu:Meth K C "undo" fu
 Bu:Binds K du ["self"] []
 fn:ae
 dn:aL
 Mn:Meth K C "now" fn
 Bn:Binds K dn ["self"] []
def DB(m:gq->List D->R (D×gq)):gq->List D->R (D×gq):=λc ds=>(m c ds).ne
def Zb(i:Nat)(m:gq->List D->R (D×gq))(fr:DE->R (List D))(env:DE):R (D×DE):=match y9 i env with
 |some _=>(fr env).bind λds=>gP i m env ds
 |none=>.bad
def TF(i:Nat)(m:gq->List D->R (D×gq))(fr:DE->R (List D))(env:DE):R (D×DE):=(R.of (y9 i env)).bind λ_=>(fr env).bind λds=>gP i m env ds
def Ql(i:Nat)(m:gq->List D->R (D×gq))(fr:DE->R (List D))(env:DE):R Out:=match y9 i env with
 |some _=>(fr env).ne.bind λds=>(gP i m env ds).bind λp=>.ok (.nx p.2)
 |none=>.bad
def told(s:gq):R (D×gq)->R (D×gq)
 |.ok p=>.ok (.str "",p.2)
 |.err n=>if n="NoWord" then .ok (.str "word",s)else if n="NoMove" then .ok (.str "move",s)else .bad
 |.bad=>.bad
def cR(s:gq)(ds:List D):R (D×gq):=match ds with
 |[.str k,ck]=>if k="hang" then told s (jY s [ck])else if k="drop" then told s (kN s [ck])else if k="go" then told s (D3 s [ck])else .bad
 |_=>.bad
def xC(s:gq)(ds:List D):R (D×gq):=match ds with
 |[.lst xs]=> @ite _ (xs=cH s.2.1/\(2<=s.1/\s.1<=7)/\s.2.1.length<=500/\s.2.2.length<=500) (jK _) (.ok (.bl true,s)) .bad
 |_=>.bad
def G5:∀(s:gq)(ds:List D)(n:Str),xC s ds≠.err n:=by
 intro s ds n;unfold xC;split
 ·split<;>(intro h;cases h)
 ·intro h;cases h
def yL:∀(c:gq)(ds:List D)(n:Str),lE c ds≠.err n:=by
 intro c ds n h;unfold lE at h;split at h
 ·split at h
  ·cases h
  ·cases q:c.2.2.getLast? with
   |none=>rw[q]at h;cases h
   |some d=>
    rw[q]at h;have h':(jZ c.1 c.2.1 d).ne.bind (λns=>R.ok (D.bl true,c.1,ns,c.2.2.dropLast))=.err n:=h;cases q2:jZ c.1 c.2.1 d with
    |ok x=>rw[q2]at h';cases h'
    |err x=>rw[q2]at h';cases h'
    |bad=>rw[q2]at h';cases h'
 ·cases h
section
variable{P:aO}{w:aD}{K:aj}{mg:Str->Option ah}{base:au}
def VP{x qual:Str}{st:aB}{f:ae}{fd:aL}{N ps:List Str}{k:Nat}{b:DE->R Out}(F:Br K x qual st f fd)(S:bh N ps (az st))
  (hb:∀(cdv:ah)(A:aW)(outer:List Env)(s:ai)(H:Hp)(E:XK),bB k (A.deeper (dF qual (az st) s.heap.objs.size f cdv))->qG (gn lL P w K mg base N qual (az st) f cdv A outer s H E).Cz (dm st) (tS K EN b))(m:gq->List D->R (D×gq))
  (hm:∀a s ds p,m s ds=.ok p->ds.length+1=ps.length/\∃o,b (ve N.length (e7 (aa a) s) ds)=.ok o/\BV a o=.ok p)(hne:∀s ds n,m s ds≠.err n):
  vN P w K mg base lL (k+1) f fd ps m:=okM F S hm hne hb
end
end DL.oh
namespace DL.oh
open PySem PySem.Spec PyProof.Rows L2 DL
noncomputable def j0(env:DE):R Out:=
 ((R.ne (aU 1 env>=>λv5=>R.ok (D.str "hang")>=>λv6=>R.of (j9 v5 v6)>=>cK))>=>λv4=>if v4=true then(Ql 0 jY (λenv=>(fS 2 env>=>λv7=>R.ok []>=>λv8=>R.ok (v7::v8))) env)else((R.ne (aU 1 env>=>λv10=>R.ok (D.str "drop")>=>λv11=>R.of (j9 v10 v11)>=>cK))>=>λv9=>if v9=true then(Ql 0 kN (λenv=>(fS 2 env>=>λkY=>R.ok []>=>λjN=>R.ok (kY::jN))) env)else((R.ne (aU 1 env>=>λmZ=>R.ok (D.str "go")>=>λmq=>R.of (j9 mZ mq)>=>cK))>=>λmY=>if mY=true then(Ql 0 D3 (λenv=>(fS 2 env>=>λiX=>R.ok []>=>λmW=>R.ok (iX::mW))) env)else((R.ne (aU 2 env>=>λv20=>R.ok []>=>λpU=>R.ok (v20::pU)))>=>λoK=>nQ oK>=>λ_=>R.ok (Out.nx env)))))
def nR(env:DE):R Out:=
 (fS 4 env>=>λj7=>R.ok (Out.nx (List.set env 3 (Sl.val j7))))
noncomputable def rz(env:DE):R Out:=
 (bF (R.ok D.non>=>λv2=>R.ok (Out.nx (List.set env 3 (Sl.val v2)))) λv1=>
 (bF (tryD 4 ["NoMove","NoWord"] j0 nR v1) λv3=>
 (bF ((aU 3 v3>=>λm5=>R.ok D.non>=>λpV=>R.of (t6 m5 pV)>=>cK)>=>λpT=>if pT=true then(R.ok (D.str "")>=>λoM=>R.ok (Out.rt oM))else(R.ok (Out.nx v3))) λoE=>
 (bF (((aU 3 oE>=>λv30=>qH ["NoMove","NoWord"] ["BadPicture","BadText","NoForm","NoRow","NoString","TooMany","Unlike"] v30)>=>cK)>=>λmX=>if mX=true then(R.ok (D.str "none")>=>λuc=>R.ok (Out.rt uc))else(R.ok (Out.nx oE))) λlR=>
 (bF ((((aU 3 lR>=>λsX=>qH ["NoMove","NoWord"] ["NoWord"] sX)>=>cK)>=>λud=>if ud=true then((((aU 3 lR>=>λuf=>qH ["NoMove","NoWord"] ["NoMove"] uf)>=>cK)>=>λue=>R.ok (!ue))>=>λsY=>if sY=true then((aU 3 lR>=>λsZ=>qH ["NoMove","NoWord"] ["ValueError"] sZ)>=>cK)else R.ok false)else R.ok false)>=>λqR=>if qR=true then(R.ok (D.str "word")>=>λsM=>R.ok (Out.rt sM))else(R.ok (Out.nx lR))) λkc=>
 (bF ((((aU 3 kc>=>λvO=>qH ["NoMove","NoWord"] ["NoMove"] vO)>=>cK)>=>λsN=>if sN=true then((((aU 3 kc>=>λxH=>qH ["NoMove","NoWord"] ["NoWord"] xH)>=>cK)>=>λvh=>R.ok (!vh))>=>λwo=>if wo=true then((aU 3 kc>=>λqT=>qH ["NoMove","NoWord"] ["ValueError"] qT)>=>cK)else R.ok false)else R.ok false)>=>λvj=>if vj=true then(R.ok (D.str "move")>=>λxJ=>R.ok (Out.rt xJ))else(R.ok (Out.nx kc))) λvQ=>
 (R.ok (D.str "none")>=>λzN=>R.ok (Out.rt zN))))))))
def hU:=mS 3 5 rz
noncomputable def cT(env:DE):R Out:=
 ((R.ne (aU 1 env>=>λv5=>R.ok (D.str "hang")>=>λv6=>R.of (j9 v5 v6)>=>cK))>=>λv4=>if v4=true then(Ql 0 jY (λenv=>(fS 2 env>=>λv7=>R.ok []>=>λv8=>R.ok (v7::v8))) env)else((R.ne (aU 1 env>=>λv10=>R.ok (D.str "drop")>=>λv11=>R.of (j9 v10 v11)>=>cK))>=>λv9=>if v9=true then(Ql 0 kN (λenv=>(fS 2 env>=>λkY=>R.ok []>=>λjN=>R.ok (kY::jN))) env)else((R.ne (aU 1 env>=>λmZ=>R.ok (D.str "go")>=>λmq=>R.of (j9 mZ mq)>=>cK))>=>λmY=>if mY=true then(Ql 0 D3 (λenv=>(fS 2 env>=>λiX=>R.ok []>=>λmW=>R.ok (iX::mW))) env)else((R.ne (aU 2 env>=>λv20=>R.ok []>=>λpU=>R.ok (v20::pU)))>=>λoK=>nQ oK>=>λ_=>R.ok (Out.nx env)))))
def jn(env:DE):R Out:=
 (fS 4 env>=>λj7=>R.ok (Out.nx (List.set env 3 (Sl.val j7))))
noncomputable def jh(env:DE):R Out:=
 (bF (R.ok D.non>=>λv2=>R.ok (Out.nx (List.set env 3 (Sl.val v2)))) λv1=>
 (bF (tryD 4 ["NoMove","NoWord"] cT jn v1) λv3=>
 (bF ((aU 3 v3>=>λm5=>R.ok D.non>=>λpV=>R.of (t6 m5 pV)>=>cK)>=>λpT=>if pT=true then(R.ok (D.str "")>=>λoM=>R.ok (Out.vM oM v3))else(R.ok (Out.nx v3))) λoE=>
 (bF (((aU 3 oE>=>λv30=>qH ["NoMove","NoWord"] ["BadPicture","BadText","NoForm","NoRow","NoString","TooMany","Unlike"] v30)>=>cK)>=>λmX=>if mX=true then(R.ok (D.str "none")>=>λuc=>R.ok (Out.vM uc oE))else(R.ok (Out.nx oE))) λlR=>
 (bF ((((aU 3 lR>=>λsX=>qH ["NoMove","NoWord"] ["NoWord"] sX)>=>cK)>=>λud=>if ud=true then((((aU 3 lR>=>λuf=>qH ["NoMove","NoWord"] ["NoMove"] uf)>=>cK)>=>λue=>R.ok (!ue))>=>λsY=>if sY=true then((aU 3 lR>=>λsZ=>qH ["NoMove","NoWord"] ["ValueError"] sZ)>=>cK)else R.ok false)else R.ok false)>=>λqR=>if qR=true then(R.ok (D.str "word")>=>λsM=>R.ok (Out.vM sM lR))else(R.ok (Out.nx lR))) λkc=>
 (bF ((((aU 3 kc>=>λvO=>qH ["NoMove","NoWord"] ["NoMove"] vO)>=>cK)>=>λsN=>if sN=true then((((aU 3 kc>=>λxH=>qH ["NoMove","NoWord"] ["NoWord"] xH)>=>cK)>=>λvh=>R.ok (!vh))>=>λwo=>if wo=true then((aU 3 kc>=>λqT=>qH ["NoMove","NoWord"] ["ValueError"] qT)>=>cK)else R.ok false)else R.ok false)>=>λvj=>if vj=true then(R.ok (D.str "move")>=>λxJ=>R.ok (Out.vM xJ kc))else(R.ok (Out.nx kc))) λvQ=>
 (R.ok (D.str "none")>=>λzN=>R.ok (Out.vM zN vQ))))))))
noncomputable def kq(env:DE):R Out:=
 (bF ((((aU 1 env>=>λv6=>R.ok []>=>λv7=>R.ok (v6::v7))>=>λv5=>R.of (iI v5))>=>λv3=>R.ok (D.int 1)>=>λv4=>R.of (dH v3 v4))>=>λv2=>R.ok (Out.nx (List.set env 2 (Sl.val v2)))) λv1=>
 (bF (((TF 0 cR (λenv=>(R.ok (D.str "drop")>=>λmY=>(fS 2 env>=>λmq=>R.ok []>=>λiX=>R.ok (mq::iX))>=>λmZ=>R.ok (mY::mZ))) v1)>=>λv10=>R.ok (D.str "move")>=>λv11=>R.of (y6 (dq v10) v11)>=>λkY=>cK kY>=>λjN=>R.ok (jN,bV v10))>=>λv9=>if dq v9=true then(R.ok (D.bl false)>=>λmW=>R.ok (Out.vM mW (bV v9)))else(R.ok (Out.nx (bV v9)))) λv8=>
 (bF ((Zb 0 (DB jY) (λenv=>((((R.ok (D.int 1)>=>λm5=>R.ok []>=>λpV=>R.ok (m5::pV))>=>fit)>=>λpT=>R.ok (D.lst pT))>=>λj7=>R.ok []>=>λoE=>R.ok (j7::oE))) v8)>=>λv20=>R.ok (Out.nx (bV v20))) λoK=>
 (bF ((((TF 0 cR (λenv=>(R.ok (D.str "drop")>=>λsZ=>(fS 2 env>=>λvQ=>R.ok []>=>λvj=>R.ok (vQ::vj))>=>λsM=>R.ok (sZ::sM))) oK)>=>λsX=>R.ok (D.str "")>=>λsY=>R.of (y6 (dq sX) sY)>=>λue=>cK ue>=>λuf=>R.ok (uf,bV sX))>=>λmX=>if dq mX=true then R.ok (true,bV mX)else(((n6 0 (bV mX)>=>λqR=>R.ok (D.lst qR))>=>λuc=>((R.ok []>=>fit)>=>λud=>R.ok (D.lst ud))>=>λkc=>R.of (y6 uc kc)>=>cK)>=>λv30=>R.ok (v30,(bV mX))))>=>λlR=>if dq lR=true then(R.ok (D.bl false)>=>λsN=>R.ok (Out.vM sN (bV lR)))else(R.ok (Out.nx (bV lR)))) λoM=>
 (((gP 0 lE oM []>=>λqT=>R.ok (D.bl true)>=>λxJ=>R.of (Tw (dq qT) xJ)>=>λzN=>R.ok (zN,bV qT))>=>λvh=>cK (dq vh)>=>λxH=>if xH=true then((gP 0 lE (bV vh) []>=>λGQ=>R.ok (D.bl true)>=>λwm=>R.of (Tw (dq GQ) wm)>=>λB1=>R.ok (B1,bV GQ))>=>λwk=>cK (dq wk)>=>λHN=>if HN=true then(((n6 0 (bV wk)>=>λBZ=>R.ok (D.lst BZ))>=>λB0=>aU 1 (bV wk)>=>λBX=>R.of (j9 B0 BX))>=>λvP=>R.ok (vP,(bV wk)))else R.ok (D.bl false,bV wk))else R.ok (D.bl false,bV vh))>=>λvO=>Vk (dq vO)>=>λwo=>R.ok (Out.vM wo (bV vO)))))))
noncomputable def zD(d:D)(env:DE):R Out:=
 (bN 4) d env>=>λqR=>
  ((((R.ok D.non>=>λue=>(R.ok (D.str "loom")>=>λsZ=>(aU 4 qR>=>λvQ=>R.ok []>=>λvj=>R.ok (vQ::vj))>=>λsM=>R.ok (sZ::sM))>=>λuf=>R.ok (ue::uf))>=>hU)>=>λsX=>R.ok (D.str "word")>=>λsY=>R.of (y6 sX sY)>=>cK)>=>λud=>if ud=true then(R.ok (D.bl false)>=>λsN=>R.ok (Out.rt sN))else(R.ok (Out.nx qR)))
noncomputable def rA(d:D)(env:DE):R Out:=
 (bT 2 (xn (bN 7) (xn (bN 8) Jz))) d env>=>λIA=>
  (bF ((iR 6 IA>=>λJV=>(R.ok (D.int 1)>=>λJZ=>R.of (lN JZ))>=>λJW=>nX JV JW)>=>λJU=>R.ok (Out.nx (List.set IA 9 (Sl.val JU)))) λD0=>
 (bF (((fS 2 D0>=>λJY=>(fS 9 D0>=>λNR=>(((aU 8 D0>=>λN7=>(aU 7 D0>=>λNX=>(R.ok (D.int 69621)>=>λNW=>R.ok []>=>λNZ=>R.ok (NW::NZ))>=>λNV=>R.ok (NX::NV))>=>λNU=>R.ok (N7::NU))>=>jl)>=>λNT=>(fS 3 D0>=>λN6=>R.ok []>=>λNY=>R.ok (N6::NY))>=>λIB=>R.ok (NT::IB))>=>λNS=>R.ok (NR::NS))>=>λN8=>R.ok (JY::N8))>=>g8)>=>λJX=>R.ok (Out.nx (List.set D0 10 (Sl.val JX)))) λGR=>
 (bF (((aU 2 GR>=>λN5=>(aU 9 GR>=>λN3=>(aU 10 GR>=>λB2=>R.ok []>=>λsO=>R.ok (B2::sO))>=>λKb=>R.ok (N3::Kb))>=>λN2=>R.ok (N5::N2))>=>my)>=>λN4=>R.ok (Out.nx (List.set GR 11 (Sl.val N4)))) λLx=>
 (bF ((((aU 11 Lx>=>λKm=>R.ok (D.str "")>=>λKj=>R.of (y6 Km Kj)>=>cK)>=>λKd=>R.ok (Kd,Lx))>=>λzf=>if dq zf=true then((TF 5 cR (λenv=>((fS 10 env>=>λER=>R.ok (D.int 0)>=>λKn=>mi ER Kn)>=>λET=>((fS 10 env>=>λKf=>R.ok (D.int 1)>=>λKc=>mi Kf Kc)>=>λKg=>R.ok []>=>λKe=>R.ok (Kg::Ke))>=>λEU=>R.ok (ET::EU))) (bV zf))>=>λxK=>aU 11 (bV xK)>=>λEY=>R.of (y6 (dq xK) EY)>=>λEZ=>cK EZ>=>λEV=>R.ok (EV,bV xK))else R.ok (false,bV zf))>=>λz0=>if dq z0=true then(R.ok (D.bl false)>=>λKl=>R.ok (Out.rt Kl))else(R.ok (Out.nx (bV z0)))) λwu=>
 (bF (((aU 11 wu>=>λKC=>R.ok (D.str "")>=>λKu=>R.of (y6 KC Ku)>=>cK)>=>λz5=>if z5=true then R.ok true else((((aU 9 wu>=>λKz=>R.ok []>=>λKA=>R.ok (Kz::KA))>=>λKq=>R.of (iI Kq))>=>λKs=>R.ok (D.int 16)>=>λKo=>R.of (Ep Ks Ko)>=>cK)>=>λKr=>if Kr=true then R.ok true else((fS 10 wu>=>λKx=>R.ok (D.int 0)>=>λKD=>mi Kx KD)>=>λKy=>R.ok (D.str "drop")>=>λKv=>R.of (j9 Ky Kv)>=>cK)))>=>λKh=>if Kh=true then(bF (((TF 5 cR (λenv=>((fS 10 env>=>λKY=>R.ok (D.int 0)>=>λKU=>mi KY KU)>=>λKI=>((fS 10 env>=>λKS=>R.ok (D.int 1)>=>λKO=>mi KS KO)>=>λKW=>R.ok []>=>λKP=>R.ok (KW::KP))>=>λKJ=>R.ok (KI::KJ))) wu)>=>λE0=>aU 11 (bV E0)>=>λKN=>R.of (y6 (dq E0) KN)>=>λKG=>cK KG>=>λKH=>R.ok (KH,bV E0))>=>λHR=>if dq HR=true then(R.ok (D.bl false)>=>λsP=>R.ok (Out.rt sP))else(R.ok (Out.nx (bV HR)))) λz6=>
 ((aU 11 z6>=>λKR=>R.ok (D.str "")>=>λK4=>R.of (j9 KR K4)>=>cK)>=>λKQ=>if KQ=true then(ownAt 6 z6>=>λK5=>((fS 9 z6>=>λK1=>(fS 10 z6>=>λKZ=>R.ok []>=>λK0=>R.ok (KZ::K0))>=>λK2=>R.ok (K1::K2))>=>iY)>=>λK3=>Rf 6 z6 K5 K3)else(R.ok (Out.nx z6))))else(R.ok (Out.nx wu))) λES=>
 ((((((((n6 5 ES>=>λRK=>R.ok (D.lst RK))>=>λRT=>((iR 6 ES>=>λRG=>(R.ok (D.int 1)>=>λRQ=>R.of (lN RQ))>=>λRM=>nX RG RM)>=>λRH=>R.ok []>=>λRE=>R.ok (RH::RE))>=>λRJ=>R.ok (RT::RJ))>=>f9)>=>cK)>=>λRL=>R.ok (!RL))>=>λRB=>R.ok (RB,ES))>=>λDg=>if dq Dg=true then R.ok (true,bV Dg)else(((aU 2 (bV Dg)>=>λRD=>R.ok (D.int 1)>=>λRU=>R.of (Lu RD RU)>=>cK)>=>λRy=>R.ok (Ry,(bV Dg)))>=>λE3=>if dq E3=true then(((TF 5 xC (λenv=>((iR 6 env>=>λRV=>(R.ok (D.int 1)>=>λRx=>R.of (lN Rx))>=>λRz=>nX RV Rz)>=>λRw=>R.ok []>=>λRA=>R.ok (Rw::RA))) (bV E3))>=>λN9=>cK (dq N9)>=>λRv=>R.ok (Rv,bV N9))>=>λHU=>R.ok (!(dq HU),bV HU))else R.ok (false,bV E3)))>=>λHS=>if dq HS=true then(R.ok (D.bl false)>=>λRO=>R.ok (Out.rt RO))else(R.ok (Out.nx (bV HS)))))))))
noncomputable def vK(d:D)(env:DE):R Out:=
 (bN 12) d env>=>λHW=>
  ((((((((n6 5 HW>=>λSJ=>R.ok (D.lst SJ))>=>λSK=>((iR 6 HW>=>λSD=>aU 12 HW>=>λSE=>nX SD SE)>=>λSG=>R.ok []>=>λSH=>R.ok (SG::SH))>=>λR3=>R.ok (SK::R3))>=>f9)>=>cK)>=>λR0=>R.ok (!R0))>=>λSN=>R.ok (SN,HW))>=>λK6=>if dq K6=true then R.ok (true,bV K6)else(gP 5 lE (bV K6) []>=>λOd=>R.ok (D.bl true)>=>λRZ=>R.of (BR (dq Od) RZ)>=>λSQ=>cK SQ>=>λSM=>R.ok (SM,bV Od)))>=>λOa=>if dq Oa=true then(R.ok (D.bl false)>=>λR4=>R.ok (Out.rt R4))else(R.ok (Out.nx (bV Oa))))
noncomputable def Qm(env:DE):R Out:=
 (bF ((((aU 0 env>=>λv5=>(R.ok (D.int 0)>=>λv7=>R.ok []>=>λv8=>R.ok (v7::v8))>=>λv6=>R.ok (v5::v6))>=>eO)>=>λv3=>R.ok (D.int 1000000007)>=>λv4=>R.of (kR v3 v4))>=>λv2=>R.ok (Out.nx (List.set env 1 (Sl.val v2)))) λv1=>
 (bF (((aU 1 v1>=>λv11=>(R.ok (D.int 1)>=>λjN=>(R.ok (D.int 7)>=>λmZ=>R.ok []>=>λmq=>R.ok (mZ::mq))>=>λmY=>R.ok (jN::mY))>=>λkY=>R.ok (v11::kY))>=>g7)>=>λv10=>R.ok (Out.nx (List.set v1 2 (Sl.val v10)))) λv9=>
 (bF ((R.ok (D.int 1)>=>λoK=>(((aU 0 v9>=>λoE=>(R.ok (D.int 1)>=>λm5=>R.ok []>=>λpV=>R.ok (m5::pV))>=>λpT=>R.ok (oE::pT))>=>eO)>=>λpU=>(R.ok (D.int 10)>=>λoM=>R.ok (D.int 60)>=>λlR=>R.of (Jg oM lR))>=>λj7=>R.of (kR pU j7))>=>λv20=>R.of (dH oK v20))>=>λmW=>R.ok (Out.nx (List.set v9 3 (Sl.val mW)))) λiX=>
 (bF (((((R.ok (D.int 0)>=>λvO=>(R.ok (D.int 8)>=>λvh=>((R.ok (D.int 1)>=>λzN=>R.of (lN zN))>=>λqT=>((R.ok (D.int 8)>=>λGQ=>aU 3 iX>=>λwm=>R.of (dH GQ wm))>=>λwk=>((aU 3 iX>=>λB0=>R.of (lN B0))>=>λB1=>R.ok []>=>λvP=>R.ok (B1::vP))>=>λHN=>R.ok (wk::HN))>=>λxJ=>R.ok (qT::xJ))>=>λxH=>R.ok (vh::xH))>=>λwo=>R.ok (vO::wo))>=>fit)>=>λds=>R.ok (D.tup ds))>=>Wt)>=>λv30=>iB zD v30 iX) λmX=>
 (bF ((aU 2 mX>=>λC8=>R.ok []>=>λC6=>R.ok (C8::C6))>=>λBZ=>R.ne (nQ BZ)>=>λC7=>R.ok (Out.nx (List.set mX 5 (Sl.deep (Ct.lm none C7 [] []))))) λBX=>
 (bF (((((R.ok []>=>fit)>=>λEI=>R.ok (D.lst EI))>=>λDZ=>R.ok []>=>λEF=>R.ok (DZ::EF))>=>fit)>=>λEG=>R.ok (Out.nx (List.set BX 6 (Sl.own EG)))) λCm=>
 (bF ((((iR 0 Cm>=>λRW=>(R.ok (D.int 1)>=>vX)>=>λRX=>(R.ok (D.int 40)>=>vX)>=>λOe=>R.ok (cut RW RX Oe))>=>λRN=>R.ok (D.lst RN))>=>λRP=>Jf RP>=>λxs=>R.ok (jo xs))>=>λEH=>iB rA EH Cm) λD2=>
 (bF ((((((aU 6 D2>=>λSy=>R.ok []>=>λR7=>R.ok (Sy::R7))>=>λR9=>R.of (iI R9))>=>λSz=>R.ok (D.int 1)>=>λR5=>R.of (qN Sz R5))>=>λSA=>(R.ok (D.int 0)>=>λR8=>((R.ok (D.int 1)>=>λSe=>R.of (lN Se))>=>λSx=>R.ok []>=>λSd=>R.ok (Sx::Sd))>=>λSf=>R.ok (R8::Sf))>=>λR6=>R.ok (SA::R6))>=>JQ)>=>λRY=>iB vK RY D2) λOb=>
 (((((n6 5 Ob>=>λSo=>R.ok (D.lst So))>=>λSu=>((R.ok []>=>fit)>=>λSs=>R.ok (D.lst Ss))>=>λSh=>R.of (j9 Su Sh))>=>λSi=>R.ok (Si,Ob))>=>λK7=>cK (dq K7)>=>λSv=>if Sv=true then(gP 5 lE (bV K7) []>=>λOc=>R.ok (D.bl false)>=>λSn=>R.of (Tw (dq Oc) Sn)>=>λSq=>R.ok (Sq,bV Oc))else R.ok (D.bl false,bV K7))>=>λSg=>Vk (dq Sg)>=>λSw=>R.ok (Out.rt Sw))))))))))
def zE:=mS 1 13 Qm
end DL.oh
namespace DL.oh
open PySem PySem.Spec PyProof.Rows L2 DL
theorem kh(o:Option ae)(s:gq)(e:DE):y9 0 (.deep (e7 o s)::e)=aa (o,s):=rfl
theorem dR(d:D)(e:DE)(k:DE->R Out):bF (.ok (.vM d e)) k=.ok (.vM d e):=rfl
theorem Fe(c:Str):t6 (.exc c) .non=aa (.bl false):=rfl
def Cd{s:gq}{r:R (D×gq)}{n:Str}:told s r≠.err n:=by
 unfold told;split
 ·intro h;cases h
 ·split
  ·intro h;cases h
  ·split<;>(intro h;cases h)
 ·intro h;cases h
def mP:∀(s:gq)(ds:List D)(n:Str),cR s ds≠.err n:=by
 intro s ds n;unfold cR;split
 ·split
  ·exact Cd
  ·split
   ·exact Cd
   ·split
    ·exact Cd
    ·intro h;cases h
 ·intro h;cases h
def Ff(o:Option ae)(s:gq)(k ck:D)(x y:Sl)(m:gq->List D->R (D×gq)):Ql 0 m (λenv=>(fS 2 env>=>λv7=>R.ok []>=>λv8=>R.ok (v7::v8))) [.deep (e7 o s),.val k,.val ck,x,y]=(m s [ck]).bind λp=>.ok (.nx [.deep (e7 o p.2),.val k,.val ck,x,y]):=by
 unfold Ql;rw[kh];simp_all [gP,kh,R.dW];cases m s [ck]with
 |ok p=>rfl
 |err n=>rfl
 |bad=>rfl
def OJ(o:Option ae)(s:gq)(ck:D)(x y:Sl):cT [.deep (e7 o s),.val (.str "hang"),.val ck,x,y]=(jY s [ck]).bind λp=>.ok (.nx [.deep (e7 o p.2),.val (.str "hang"),.val ck,x,y]):=by unfold cT;simp_all [R.dW,beq_self_eq_true];exact Ff o s _ ck x y jY
def OO(o:Option ae)(s:gq)(ck:D)(x y:Sl):cT [.deep (e7 o s),.val (.str "drop"),.val ck,x,y]=(kN s [ck]).bind λp=>.ok (.nx [.deep (e7 o p.2),.val (.str "drop"),.val ck,x,y]):=by unfold cT;simp_all [R.dW,beq_self_eq_true,show(("drop":Str)==("hang":Str))=false from by decide];exact Ff o s _ ck x y kN
def VQ(o:Option ae)(s:gq)(ck:D)(x y:Sl):cT [.deep (e7 o s),.val (.str "go"),.val ck,x,y]=(D3 s [ck]).bind λp=>.ok (.nx [.deep (e7 o p.2),.val (.str "go"),.val ck,x,y]):=by unfold cT;simp_all [R.dW,beq_self_eq_true,show(("go":Str)==("hang":Str))=false from by decide,show(("go":Str)==("drop":Str))=false from by decide];exact Ff o s _ ck x y D3
def qh(a:ae)(s:gq)(k ck:D)(r:R (D×gq))(p:D×gq)(hr:∀(o:Option ae)(x y:Sl),cT [.deep (e7 o s),.val k,.val ck,x,y]=r.bind λp=>.ok (.nx [.deep (e7 o p.2),.val k,.val ck,x,y]))(h:told s r=.ok p):
  ∃o,jh [.deep (e7 (aa a) s),.val k,.val ck,.no,.no]=.ok o/\BV a o=.ok p:=by
 unfold jh;simp_all;unfold tryD;rw[hr];cases r with
 |bad=>cases h
 |ok q=>
  cases h;simp_all [Rh,dR];exact⟨_,rfl,if_pos ⟨rfl,rfl⟩⟩
 |err n=>
  unfold told at h;dsimp only at h;have w1:qH ["NoMove","NoWord"] ["BadPicture","BadText","NoForm","NoRow","NoString","TooMany","Unlike"] (.exc "NoWord")=.ok (.bl false):=qx (by decide) (by decide);have w2:qH ["NoMove","NoWord"] ["NoWord"] (.exc "NoWord")=.ok (.bl true):=qx (by decide) (by decide);have w3:qH ["NoMove","NoWord"] ["NoMove"] (.exc "NoWord")=.ok (.bl false):=qx (by decide) (by decide);have w4:qH ["NoMove","NoWord"] ["ValueError"] (.exc "NoWord")=.ok (.bl true):=qx (by decide) (by decide);have v1:qH ["NoMove","NoWord"] ["BadPicture","BadText","NoForm","NoRow","NoString","TooMany","Unlike"] (.exc "NoMove")=.ok (.bl false):=qx (by decide) (by decide);have v2:qH ["NoMove","NoWord"] ["NoWord"] (.exc "NoMove")=.ok (.bl false):=qx (by decide) (by decide);have v3:qH ["NoMove","NoWord"] ["NoMove"] (.exc "NoMove")=.ok (.bl true):=qx (by decide) (by decide);have v4:qH ["NoMove","NoWord"] ["ValueError"] (.exc "NoMove")=.ok (.bl true):=qx (by decide) (by decide);split at h
  ·rename_i hn
   subst hn;cases h;simp_all [R.mh];rw[if_pos (show("NoWord":Str)∈(["NoMove","NoWord"]:List Str)by decide)];unfold jn;simp_all [R.dW,Vb,Fe,w1,w2,w3,w4,dR,gJ,cA];exact⟨_,rfl,if_pos ⟨rfl,rfl⟩⟩
  ·split at h
   ·rename_i hn
    subst hn;cases h;simp_all [R.mh];rw[if_pos (show("NoMove":Str)∈(["NoMove","NoWord"]:List Str)by decide)];unfold jn;simp_all [R.dW,Vb,Fe,v1,v2,v3,v4,dR,gJ,cA];exact⟨_,rfl,if_pos ⟨rfl,rfl⟩⟩
   ·cases h
def DC:∀(a:ae)(s:gq)(ds:List D)(p:D×gq),cR s ds=.ok p->ds.length+1=["_law_loom","_law_kind","_law_part"].length/\∃o,jh (ve ["_law_loom","_law_kind","_law_part","_law_caught","e"].length (e7 (aa a) s) ds)=.ok o/\BV a o=.ok p:=by
 intro a s ds p h;unfold cR at h;split at h
 ·rename_i k ck
  refine⟨rfl,?_⟩;show∃o,jh [.deep (e7 (aa a) s),.val (.str k),.val ck,.no,.no]=.ok o/\BV a o=.ok p;split at h
  ·rename_i e
   subst e;exact qh a s _ ck _ p (λo x y=>OJ o s ck x y) h
  ·split at h
   ·rename_i e
    subst e;exact qh a s _ ck _ p (λo x y=>OO o s ck x y) h
   ·split at h
    ·rename_i e
     subst e;exact qh a s _ ck _ p (λo x y=>VQ o s ck x y) h
    ·cases h
 ·cases h
end DL.oh
namespace DL.oh
open PySem PySem.Spec PyProof.Rows L2 DL
theorem kO(i:Nat)(x:Sl)(e:DE):y9 (i+1) (x::e)=y9 i e:=rfl
theorem iN(i:Nat)(m:gq->List D->R (D×gq))(fr:DE->R (List D))(env:DE):TF i m fr env=(R.of (y9 i env)).bind λ_=>(fr env).bind λds=>gP i m env ds:=rfl
def iO(i:Nat)(m:gq->List D->R (D×gq))(fr:DE->R (List D))(env:DE):Zb i m fr env=(R.of (y9 i env)).bind λ_=>(fr env).bind λds=>gP i m env ds:=by unfold Zb;cases y9 i env<;>rfl
theorem gA(m:gq->List D->R (D×gq))(o:Option ae)(s:gq)(e:DE)(ds:List D):gP 0 m (.deep (e7 o s)::e) ds=(m s ds).bind λp=>.ok (p.1,.deep (e7 o p.2)::e):=rfl
def gB(i:Nat)(m:gq->List D->R (D×gq))(x:Sl)(e:DE)(ds:List D):gP (i+1) m (x::e) ds=(gP i m e ds).bind λp=>.ok (p.1,x::p.2):=by
 unfold gP;rw[kO];cases y9 i e with
 |none=>rfl
 |some q=>
  obtain⟨o,s⟩:=q;dsimp only;cases m s ds<;>rfl
theorem iP(i:Nat)(x:Sl)(e:DE):n6 (i+1) (x::e)=n6 i e:=rfl
def AG(u:List Int):R (List D):=if u.length<=aQ then .ok (cH u)else .bad
theorem iQ(o:Option ae)(s:gq)(e:DE):n6 0 (.deep (e7 o s)::e)=AG s.2.1:=rfl
def rB{u:List Int}(h:u.length<=1000):AG u=.ok (cH u):=if_pos (big (gW h (by decide)))
def lF(a b:Bool):Tw (.bl a) (.bl b)=aa (.bl (a==b)):=by cases a<;>cases b<;>rfl
def e9(a b:Bool):BR (.bl a) (.bl b)=aa (.bl (!(a==b))):=by cases a<;>cases b<;>rfl
theorem lG(b:Bool):Vk (.bl b)=.ok (.bl b):=rfl
def kP(u:List Int):Ck (cH u)=aa u:=Rc u
def AH{n:Int}{v:List Int}(hn:1<=n/\n<=7)(hv:∀k∈v,wq n k):mO n v=true:=by unfold mO;rw[decide_eq_true hn.1,decide_eq_true hn.2];simp_all only [fQ,u5];exact λk hk=>(zz n k).mpr (hv k hk)
def G6{n:Int}{u v:List Int}{ds:List D}(hn:1<=n/\n<=7)(hv:∀k∈v,wq n k)(hl:u.length+v.length<=1000)(hd:ds.length<=1000):jY (n,u,ds) [.lst (cH v)]=.ok (.non,n,u++v,ds++[.tup [.str "cut",.int u.length]]):=by unfold jY;dsimp only;rw[nP,if_pos (AH hn hv),R.cg,kP];exact if_pos ⟨uS hl (by decide),uS hd (by decide)⟩
def OP{n:Int}{u v:List Int}{ds:List D}(h:mO n v=false):jY (n,u,ds) [.lst (cH v)]=.err "NoWord":=by unfold jY;dsimp only;rw[nP,if_neg (by rw[h];decide)];rfl
def G7{n k:Int}{u:List Int}{ds:List D}(h:0<=k/\k<=(u.length:Int))(hd:ds.length<=1000):kN (n,u,ds) [.int k]=.ok (.non,n,u.take (u.length-k).toNat,ds++[.tup [.str "join",.lst (cH (u.drop (u.length-k).toNat))]]):=by unfold kN;dsimp only;rw[if_neg (by omega),if_pos (uS hd (by decide)),kX _ _ (by omega),iW _ _ (by omega)]
def G8{n k:Int}{u:List Int}{ds:List D}(h:¬(0<=k/\k<=(u.length:Int))):kN (n,u,ds) [.int k]=.err "NoMove":=by unfold kN;dsimp only;rw[if_pos (by omega)]
def Tc{w:List Int}{p:Int}(h:0<=p)(h2:p<(w.length:Int)):nA w p=aa (gI w p):=by
 rw[pR h];unfold gI;cases q:w[p.toNat]? with
 |none=>rw[Na]at q;omega
 |some x=>rfl
def VR{n:Int}{u:List Int}{d:Mv}(h:eg n u d=true):(Fd [.int n,.lst (cH u),d.d]).bind (λxs=>.ok (D.tup xs))=.ok (Qh u d).d:=by
 have hp:=wI h;have hr:bC [.int n,.lst (cH u),d.d]=.ok .non:=by rw[ur,if_pos h]
 cases d with
 |out p=>
  dsimp only at hp;simp -implicitDefEqProofs only [Mv.d]at hr⊢;unfold Fd;dsimp only;rw[hr,R.cg,kP];dsimp only;rw[if_pos rfl,Tc (by omega) (by omega)];rfl
 |yG p k=>
  simp -implicitDefEqProofs only [Mv.d]at hr⊢;unfold Fd;dsimp only;rw[hr,R.cg,kP];dsimp only;rw[if_neg (by decide),if_pos rfl];rfl
 |far p=>
  simp -implicitDefEqProofs only [Mv.d]at hr⊢;unfold Fd;dsimp only;rw[hr,R.cg,kP];dsimp only;rw[if_neg (by decide),if_neg (by decide)];rfl
 |near p=>
  simp -implicitDefEqProofs only [Mv.d]at hr⊢;unfold Fd;dsimp only;rw[hr,R.cg,kP];dsimp only;rw[if_neg (by decide),if_neg (by decide)];rfl
def VS{n:Int}{u:List Int}{d:Mv}(h:eg n u d=false):Fd [.int n,.lst (cH u),d.d]=.err "NoMove":=by
 have hr:bC [.int n,.lst (cH u),d.d]=.err "NoMove":=by rw[ur,if_neg (by rw[h];decide)]
 cases d<;>(simp -implicitDefEqProofs only [Mv.d]at hr⊢;unfold Fd;dsimp only;rw[hr];rfl)
def VU{n:Int}{u:List Int}{d:Mv}{ds:List D}(h:eg n u d=true)(hl:u.length<=1000)(hd:ds.length<=1000):D3 (n,u,ds) [d.d]=.ok (.non,n,doneF u d,ds++[.tup [.str "go",(Qh u d).d]]):=by
 have hb:=VR h;unfold D3;dsimp only;cases q:Fd [.int n,.lst (cH u),d.d]with
 |bad=>rw[q]at hb;cases hb
 |err c=>rw[q]at hb;cases hb
 |ok xs=>
  rw[q]at hb;have e:D.tup xs=(Qh u d).d:=R.ok.inj hb;rw[R.cg,Ds n u d hl h,R.dW,R.cg,kP];dsimp only;rw[if_pos (uS hd (by decide)),e]
def VV{n:Int}{u:List Int}{d:Mv}{ds:List D}(h:eg n u d=false):D3 (n,u,ds) [d.d]=.err "NoMove":=by unfold D3;dsimp only;rw[VS h];rfl
def DD{n:Int}{u v:List Int}:jZ n (u++v) (.tup [.str "cut",.int u.length])=.ok u:=by unfold jZ;dsimp only;rw[if_pos rfl,kX _ _ (by omega),uO,Ov]
def AI{n:Int}{u:List Int}{k:Nat}(hl:u.length<=1000):jZ n (u.take k) (.tup [.str "join",.lst (cH (u.drop k))])=.ok u:=by unfold jZ;dsimp only;rw[if_neg (by decide),if_pos rfl,kP,R.jJ,R.cg,if_pos (uS (m:=2000) (by rw[cC,d7];omega) (by decide)),G0]
def OQ{n:Int}{u:List Int}{d:Mv}(hu:∀k∈u,wq n k)(h:eg n u d=true)(hl:u.length<=500):jZ n (doneF u d) (.tup [.str "go",(Qh u d).d])=.ok u:=by obtain⟨b1,b2,_⟩:=Lc hu h;have hd:=(Dt h).1;unfold jZ;dsimp only;rw[if_neg (by decide),if_neg (by decide),Ds n _ _ (by omega) b1,b2,R.cg,kP];rfl
def Ce{n:Int}{u v:List Int}{d:D}{ds:List D}(h:jZ n v d=.ok u):lE (n,v,ds++[d]) []=.ok (.bl true,n,u,ds):=by unfold lE;dsimp only;rw[if_neg (by simp),List.getLast?_concat,R.jJ,R.cg,h,R.dW,R.cg,OI]
def OS{n:Int}{v:List Int}:lE (n,v,[]) []=.ok (.bl false,n,v,[]):=by unfold lE;dsimp only;rw[if_pos rfl]
def Ll:∀(a:ae)(s:gq)(ds:List D)(p:D×gq),xC s ds=.ok p->ds.length+1=["_law_loom","_law_word"].length/\∃o,kq (ve ["_law_loom","_law_word","_law_many"].length (e7 (aa a) s) ds)=.ok o/\BV a o=.ok p:=by
 intro a s ds p h;unfold xC at h;split at h
 ·split at h
  ·rename_i xs hc
   cases h;obtain⟨rfl,hn,hl,hd⟩:=hc;obtain⟨n,u,ds⟩:=s;dsimp only at hn hl hd⊢;refine⟨rfl,?_⟩;show∃o,kq [.deep (e7 (aa a) (n,u,ds)),.val (.lst (cH u)),.no]=.ok o/\BV a o=.ok _;have r1:cR (n,u,ds) [.str "drop",.int ((u.length:Int)+1)]=.ok (.str "move",n,u,ds):=by unfold cR;dsimp only;rw[if_neg (by decide),if_pos rfl,G8 (by omega)];rfl
   have h1:jY (n,u,ds) [.lst [.int 1]]=.ok (.non,n,u++[1],ds++[.tup [.str "cut",.int u.length]]):=G6 (v:=[1]) (by omega) (by intro k hk;cases Cb.mp hk;unfold wq;omega) (by simp;omega) (by omega);have r2:cR (n,u++[1],ds++[.tup [.str "cut",.int u.length]]) [.str "drop",.int ((u.length:Int)+1)]=.ok (.str "",n,[],ds++[.tup [.str "cut",.int u.length]]++[.tup [.str "join",.lst (cH (u++[1]))]]):=by unfold cR;dsimp only;rw[if_neg (by decide),if_pos rfl,G7 (by simp;omega) (by simp;omega)];simp_all only [bz,Bq,told];rw[show(((u.length+1:Nat):Int)-((u.length:Int)+1)).toNat=0 by omega];rfl
   have u1:lE (n,[],ds++[.tup [.str "cut",.int u.length]]++[.tup [.str "join",.lst (cH (u++[1]))]]) []=.ok (.bl true,n,u++[1],ds++[.tup [.str "cut",.int u.length]]):=Ce (AI (u:=u++[1]) (k:=0) (by simp;omega));have u2:lE (n,u++[1],ds++[.tup [.str "cut",.int u.length]]) []=.ok (.bl true,n,u,ds):=Ce DD;unfold kq;have e1:AG u=.ok (cH u):=rB (by omega);have e0:AG []=.ok (cH []):=rB (by simp);have s1:(("move":Str)==("move":Str))=true:=(by decide);have s2:(("":Str)==("":Str))=true:=(by decide);have o1:[D.int 1]=cH [1]:=rfl;have k0:y6 (.lst (cH [])) (.lst [])=aa (.bl false):=U0 [] [];have k1:j9 (.lst (cH u)) (.lst (cH u))=aa (.bl true):=(by rw[Jy];simp);simp_all [iN,iO,kh,kO,gA,gB,iQ,iP,lF,e9,lG,dR,DB,R.dW,r1,h1,r2,u1,u2,cz,s1,s2,cA,e0,e1,k0,k1,beq_self_eq_true];exact⟨_,rfl,if_pos ⟨rfl,rfl⟩⟩
  ·cases h
 ·cases h
end DL.oh
namespace DL.oh
open PySem PySem.Spec PyProof.Rows L2 DL
def DF{n:Int}{w:List Int}{d:Dd}{ds:List D}(hn:1<=n/\n<=7)(hw:∀k∈w,wq n k)(hl:w.length<=400)(hds:ds.length<=400)(hd:∀v,d=.o5 v->v.length<=4):
  (lr n w d≠""/\cR (n,w,ds) [.str d.k,d.p]=.ok (.str (lr n w d),n,w,ds))\/(lr n w d=""/\∃b,cR (n,w,ds) [.str d.k,d.p]=.ok (.str "",n,qg w d,ds++[b])/\jZ n (qg w d) b=.ok w):=by
 cases d with
 |o5 v=>
  have hv:=hd v rfl;have e:cR (n,w,ds) [.str (Dd.o5 v).k,(Dd.o5 v).p]=told (n,w,ds) (jY (n,w,ds) [.lst (cH v)]):=by unfold cR Dd.k Dd.p;dsimp only;rw[if_pos rfl]
  cases hg:mO n v with
  |false=>
   refine .inl ⟨by simp_all only [lr,hg];decide,?_⟩;rw[e,OP hg];simp_all only [lr,hg];rfl
  |true=>
   have W8:∀k∈v,wq n k:=λk hk=>by unfold mO at hg;simp -implicitDefEqProofs only [dM,u5]at hg;exact(zz n k).mp (hg.2 k hk)
   refine .inr ⟨by simp_all only [lr,hg];rfl,_,?_,DD⟩;rw[e,G6 hn W8 (by omega) (by omega)];rfl
 |drop k=>
  have e:cR (n,w,ds) [.str (Dd.drop k).k,(Dd.drop k).p]=told (n,w,ds) (kN (n,w,ds) [.int k]):=by unfold cR Dd.k Dd.p;dsimp only;rw[if_neg (by decide),if_pos rfl]
  by_cases hk:0<=k/\k<=(w.length:Int)
  ·refine .inr ⟨by simp_all only [lr];rw[if_pos hk],_,?_,AI (by omega)⟩
   rw[e,G7 hk (by omega)];rfl
  ·refine .inl ⟨by simp_all only [lr];rw[if_neg hk];decide,?_⟩
   rw[e,G8 hk];simp_all only [lr];rw[if_neg hk];rfl
 |go m=>
  have e:cR (n,w,ds) [.str (Dd.go m).k,(Dd.go m).p]=told (n,w,ds) (D3 (n,w,ds) [m.d]):=by unfold cR Dd.k Dd.p;dsimp only;rw[if_neg (by decide),if_neg (by decide),if_pos rfl]
  cases hc:eg n w m with
  |true=>
   refine .inr ⟨by simp_all only [lr,hc];rfl,_,?_,OQ hw hc (by omega)⟩;rw[e,VU hc (by omega) (by omega)];rfl
  |false=>
   refine .inl ⟨by simp_all only [lr,hc];decide,?_⟩;rw[e,VV hc];simp_all only [lr,hc];rfl
end DL.oh
namespace DL.oh
open PySem PySem.Spec PyProof.Rows L2 DL
def zF(ns:List Int)(k:Nat):Int:=(ns[k]?).getD 0
def G9(ns:List Int)(k:Nat):eO [.lst (cH ns),.int k]=.ok (.int (zF ns k)):=by
 unfold eO qU zF;simp_all [cz]
 by_cases h:(k:Int)<(ns.length:Int)
 ·have h':k<ns.length:=by omega
  simp_all [h,decide_true];rw[BE,pR (by omega),uO,cQ h'];simp_all [Option.map_some,MS]
 ·have h':ns.length<=k:=by omega
  simp_all [h,decide_false];rw[List.getElem?_eq_none h'];rfl
def W(u:List Int):D:=.lst (cH u)
inductive Ch (n:Int):List (List Int)->List D->Prop
 |nil:Ch n [[]] []
 |snoc {ps:List (List Int)} {u v:List Int} {ds:List D} {b:D}:Ch n (ps++[u]) ds->jZ n v b=.ok u->Ch n (ps++[u]++[v]) (ds++[b])
def Ch.inv {n:Int}{P:List (List Int)}{ds:List D}(h:Ch n P ds):(P=[[]]/\ds=[])\/∃ps u v es b,P=ps++[u]++[v]/\ds=es++[b]/\Ch n (ps++[u]) es/\jZ n v b=.ok u:=by
 cases h with
 |nil=>exact .inl ⟨rfl,rfl⟩
 |snoc h1 h2=>exact .inr ⟨_,_,_,_,_,rfl,rfl,h1,h2⟩
def zG{n:Int}{u:List Int}{ds:List D}(hn:2<=n/\n<=7)(hl:u.length<=500)(hd:ds.length<=500):xC (n,u,ds) [.lst (cH u)]=.ok (.bl true,n,u,ds):=if_pos ⟨rfl,hn,hl,hd⟩
theorem dd0(d:Dd):mi d.d (.int 0)=.ok (.str d.k):=rfl
theorem dd1(d:Dd):mi d.d (.int 1)=.ok d.p:=rfl
def mQ(ps:List (List Int))(u:List Int):nA ((ps++[u]).map W) (-1)=aa (.lst (cH u)):=by rw[u9];exact Ja _ _
def VW{n far:Int}{ps:List (List Int)}{u:List Int}{ds:List D}(s0 s1 s4 s7 s8 s9 DU HA yW:Sl){j:Nat}(c:Int)(hj:j<1000)(hn:1<=n/\n<=7)(hu:∀k∈u,wq n k)(hl:u.length<=20)(hc:Ch n (ps++[u]) ds)(hds:ds.length<=60)(hps:ps.length<=1000):
  ∃(TJ:List (List Int))(u':List Int)(ds':List D)(t7 t8 t9 VX VY:Sl),rA (.tup [.int j,.int c]) [s0,s1,.val (.int n),.val (.int far),s4,.deep (e7 none (n,u,ds)),.own ((ps++[u]).map W),s7,s8,s9,DU,HA,yW]=.ok (.nx [s0,s1,.val (.int n),.val (.int far),s4,.deep (e7 none (n,u',ds')),.own ((TJ++[u']).map W),t7,t8,t9,VX,VY,yW])/\Ch n (TJ++[u']) ds'/\(∀k∈u',wq n k)/\u'.length<=20/\ds'.length<=ds.length+1/\(TJ=ps\/TJ=ps++[u]):=by
 unfold rA;simp_all [ZR,mQ];rw[J0 c j 69621 (by omega) (by decide)];have hz:=EJ c j 69621;generalize C9 c j 69621=z at hz;simp_all;obtain⟨d,hd,hv⟩:=E9 n u z far hz hn.1;rw[hd];simp_all;rw[S5 hn hu hv];have e1:∀u':List Int,u'.length<=500->AG u'=.ok (cH u'):=λu' h=>rB (by omega);have e2:∀u':List Int,u'.length<=500->f9 [.lst (cH u'),.lst (cH u')]=.ok (.bl true):=λu' h=>Du u' (by omega);rcases DF (ds:=ds) hn hu (by omega) (by omega) hv with⟨h1,h2⟩|⟨h1,b,h2,h3⟩
 ·have q1:(lr n u d=="")=false:=by simpa using h1
  have q2:(lr n u d==lr n u d)=true:=by simp
  simp_all [iN,iO,kh,kO,gA,gB,iQ,iP,lF,e9,lG,dR,DB,R.dW,q1,q2,gJ,cA,dd0,dd1,h2];rw[mQ,e1 u (by omega)];simp_all [e2 u (by omega),cA,iN,iO,kh,kO,gA,gB,iQ,iP,lF,e9,lG,dR,DB,R.dW]
  by_cases hn1:n>1
  ·simp_all [hn1,decide_true,iN,iO,kh,kO,gA,gB,iQ,iP,lF,e9,lG,dR,DB,R.dW]
   rw[mQ];simp_all [zG (ds:=ds) (u:=u) (n:=n) (by omega) (by omega) (by omega),cA];exact⟨ps,u,ds,_,_,_,_,_,rfl,hc,hu,hl,by omega,.inl rfl⟩
  ·simp_all [hn1,decide_false,iN,iO,kh,kO,gA,gB,iQ,iP,lF,e9,lG,dR,DB,R.dW]
   exact⟨ps,u,ds,_,_,_,_,_,rfl,hc,hu,hl,by omega,.inl rfl⟩
 ·have q1:(lr n u d=="")=true:=by rw[h1];decide
  have q2:(("":Str)==lr n u d)=true:=by rw[h1];decide
  simp_all [iN,iO,kh,kO,gA,gB,iQ,iP,lF,e9,lG,dR,DB,R.dW,q1,q2,gJ,cA,dd0,dd1]
  by_cases hg:(u.length:Int)<16\/d.k="drop"
  ·have q3:(if decide ((u.length:Int)<16)=true then R.ok true else R.ok (d.k=="drop"))=R.ok true:=by
    rcases hg with h|h
    ·rw[decide_eq_true h];rfl
    ·split
     ·rfl
     ·rw[h];rfl
   have hbl:=OA hv h1;have hdr:(qg u d).length<=20:=by
    rcases hg with h|h
    ·omega
    ·cases d with
     |drop k=>have:=hbl.2 k rfl;omega
     |o5 v=>exact absurd h (by show¬(("hang":Str)="drop");decide)
     |go m=>exact absurd h (by show¬(("go":Str)="drop");decide)
   have hch:Ch n (ps++[u]++[qg u d]) (ds++[b]):=.snoc hc h3;have hm:(ps++[u]).map W++[D.lst (cH (qg u d))]=(ps++[u]++[qg u d]).map W:=(by simp[W]);simp_all only [cz,q3,h2,R.cg,if_true];simp_all [q1,q2,cA,Ib (n:=n) (w:=u) (d:=d) (by omega) hv h1];rw[M9 (by simp;omega)];simp_all [iN,iO,kh,kO,gA,gB,iQ,iP,lF,e9,lG,dR,DB,R.dW,hm];rw[mQ,e1 (qg u d) (by omega)];simp_all [e2 (qg u d) (by omega),cA,iN,iO,kh,kO,gA,gB,iQ,iP,lF,e9,lG,dR,DB,R.dW]
   by_cases hn1:n>1
   ·simp_all [hn1,decide_true,iN,iO,kh,kO,gA,gB,iQ,iP,lF,e9,lG,dR,DB,R.dW]
    rw[mQ];simp_all [zG (ds:=ds++[b]) (u:=qg u d) (n:=n) (by omega) (by omega) (by simp;omega),cA];exact⟨ps++[u],qg u d,ds++[b],_,_,_,_,_,rfl,hch,Lf hu h1,hdr,by simp,.inr rfl⟩
   ·simp_all [hn1,decide_false,iN,iO,kh,kO,gA,gB,iQ,iP,lF,e9,lG,dR,DB,R.dW]
    exact⟨ps++[u],qg u d,ds++[b],_,_,_,_,_,rfl,hch,Lf hu h1,hdr,by simp,.inr rfl⟩
  ·have q3:(if decide ((u.length:Int)<16)=true then R.ok true else R.ok (d.k=="drop"))=R.ok false:=by
    rw[decide_eq_false (λz=>hg (.inl z)),if_neg (by decide)];have:(d.k==("drop":Str))=false:=(by simpa using λz=>hg (.inr z));rw[this]
   simp_all only [cz,q3,R.cg];simp_all [iN,iO,kh,kO,gA,gB,iQ,iP,lF,e9,lG,dR,DB,R.dW];rw[mQ,e1 u (by omega)];simp_all [e2 u (by omega),cA,iN,iO,kh,kO,gA,gB,iQ,iP,lF,e9,lG,dR,DB,R.dW]
   by_cases hn1:n>1
   ·simp_all [hn1,decide_true,iN,iO,kh,kO,gA,gB,iQ,iP,lF,e9,lG,dR,DB,R.dW]
    rw[mQ];simp_all [zG (ds:=ds) (u:=u) (n:=n) (by omega) (by omega) (by omega),cA];exact⟨ps,u,ds,_,_,_,_,_,rfl,hc,hu,hl,by omega,.inl rfl⟩
   ·simp_all [hn1,decide_false,iN,iO,kh,kO,gA,gB,iQ,iP,lF,e9,lG,dR,DB,R.dW]
    exact⟨ps,u,ds,_,_,_,_,_,rfl,hc,hu,hl,by omega,.inl rfl⟩
def VZ{n:Int}{P:List (List Int)}{u v:List Int}{ds:List D}{b:D}(s0 s1 s2 s3 s4 s7 s8 s9 DU HA yW:Sl){j:Nat}(hP:P[j]?=aa v)(hl:v.length<=500)(hb:jZ n v b=.ok u):
  vK (.int j) [s0,s1,s2,s3,s4,.deep (e7 none (n,v,ds++[b])),.own (P.map W),s7,s8,s9,DU,HA,yW]=.ok (.nx [s0,s1,s2,s3,s4,.deep (e7 none (n,u,ds)),.own (P.map W),s7,s8,s9,DU,HA,.val (.int j)]):=by
 have ea:nA (P.map W) (j:Int)=aa (.lst (cH v)):=by rw[pR (by omega),uO,dZ,hP];rfl
 unfold vK;simp_all [CT,iN,iO,kh,kO,gA,gB,iQ,iP,lF,e9,lG,dR,DB,R.dW,rB (show v.length<=1000 by omega),ea,Du v (by omega),cA,Ce hb,beq_self_eq_true]
def Ln(m:Nat)(h:m<=1000):JQ [.int (((m+1:Nat):Int)-1),.int 0,.int (-1)]=.ok ((eR m).map λ(i:Nat)=>.int ((m:Int)-i)):=by
 have e:(jD (((m+1:Nat):Int)-1) 0 (-1)).toNat=m:=by unfold jD;rw[if_neg (by decide),show(-(-1):Int)=1 from rfl,Ms];split<;>omega
 refine(if_pos (by unfold RC;omega)).trans ?_;rw[e];unfold JP;congr 1;refine OT λi _=>?_;congr 1;omega
theorem Qn{n:Int}{P:List (List Int)}(s0 s1 s2 s3 s4 s7 s8 s9 DU HA:Sl):∀(m:Nat)(u:List Int)(ds:List D)(qs:List (List Int))(yW:Sl),P.take (m+1)=qs++[u]->m+1<=P.length->Ch n (qs++[u]) ds->(∀v∈P,v.length<=500)->
  ∃t12,iB vK ((eR m).map λ(i:Nat)=>.int ((m:Int)-i)) [s0,s1,s2,s3,s4,.deep (e7 none (n,u,ds)),.own (P.map W),s7,s8,s9,DU,HA,yW]=.ok (.nx [s0,s1,s2,s3,s4,.deep (e7 none (n,[],[])),.own (P.map W),s7,s8,s9,DU,HA,t12])
 |0,u,ds,qs,yW,h1,h2,h3,h4=>by
  have hq:qs=[]:=by have:=congrArg length h1;simp at this;exact List.eq_nil_of_length_eq_zero (by omega)
  subst hq;rcases h3.inv with⟨e1,e2⟩|⟨ps,a,v,es,b,e1,_⟩
  ·simp at e1
   subst e1 e2;exact⟨yW,rfl⟩
  ·have:=congrArg length e1
   simp at this
 |m+1,u,ds,qs,yW,h1,h2,h3,h4=>by
  rcases h3.inv with⟨e1,e2⟩|⟨ps,a,v,es,b,e1,rfl,e3,e4⟩
  ·have z1:(P.take (m+1+1)).length=(qs++[u]).length:=congrArg _ h1
   rw[e1,cC,Bq]at z1;omega
  ·obtain⟨rfl,e5⟩:=List.append_inj' e1 rfl
   cases e5;have hv:P[m+1]?=aa u:=by have z:(P.take (m+1+1))[m+1]?=P[m+1]?:=Mr (by omega);rw[<-z,h1];have hl:=congrArg length h1;simp at hl;rw[gF (by simp;omega)];have:m+1-(ps++[a]).length=0:=(by simp;omega);rw[this];rfl
   have hm:=h4 u (yg hv);have st:=VZ (n:=n) (P:=P) (u:=a) (v:=u) (ds:=es) (b:=b) s0 s1 s2 s3 s4 s7 s8 s9 DU HA yW hv hm e4;have hr:((eR (m+1)).map λ(i:Nat)=>D.int (((m+1:Nat):Int)-i))=.int ((m+1:Nat):Int)::(eR m).map λ(i:Nat)=>.int ((m:Int)-i):=by rw[M0,nk,M7];congr 1;refine OT λi _=>?_;show D.int (((m+1:Nat):Int)-((i+1:Nat):Int))=_;congr 1;omega
   rw[hr,lq st];have ht:P.take (m+1)=ps++[a]:=by
    have z:(P.take (m+1+1)).take (m+1)=P.take (m+1):=(by rw[List.take_take];congr 1;omega);rw[<-z,h1,List.take_append_of_le_length]
    ·have hl:=congrArg length h1
     simp at hl;rw[vc (by simp;omega)]
    ·have hl:=congrArg length h1
     simp at hl⊢;omega
   exact Qn s0 s1 s2 s3 s4 s7 s8 s9 DU HA m a es ps _ ht (by omega) e3 h4
def Cf{k:Int}(h:¬(1<=k/\k<=7)):hU [.non,.str "loom",.int k]=.ok (.str "word"):=by
 have hg:nQ [.int k]=.err "NoWord":=by
  unfold nQ;dsimp only;rw[show D.lst []=D.lst (cH [])from rfl,nP,if_neg]
  ·rfl
  ·unfold mO
   simp_all only [dM,decide_eq_true_eq];exact λz=>h z.1
 have w1:qH ["NoMove","NoWord"] ["BadPicture","BadText","NoForm","NoRow","NoString","TooMany","Unlike"] (.exc "NoWord")=.ok (.bl false):=qx (by decide) (by decide);have w2:qH ["NoMove","NoWord"] ["NoWord"] (.exc "NoWord")=.ok (.bl true):=qx (by decide) (by decide);have w3:qH ["NoMove","NoWord"] ["NoMove"] (.exc "NoWord")=.ok (.bl false):=qx (by decide) (by decide);have w4:qH ["NoMove","NoWord"] ["ValueError"] (.exc "NoWord")=.ok (.bl true):=qx (by decide) (by decide);have y1:j0 [.val .non,.val (.str "loom"),.val (.int k),.val .non,.no]=.err "NoWord":=by unfold j0;simp_all [R.dW,show(("loom":Str)==("hang":Str))=false from by decide,show(("loom":Str)==("drop":Str))=false from by decide,show(("loom":Str)==("go":Str))=false from by decide,hg,R.mh]
 unfold hU rz;simp_all;unfold tryD;rw[y1];dsimp only;rw[if_pos (show("NoWord":Str)∈(["NoMove","NoWord"]:List Str)by decide)];unfold nR;simp_all [R.dW,Vb,Fe,w1,w2,w3,w4,gJ,cA]
def DG(s0 s1 s2 s3 s4 s5 s6 s7 s8 s9 DU HA yW:Sl){k:Int}(h:¬(1<=k/\k<=7)):zD (.int k) [s0,s1,s2,s3,s4,s5,s6,s7,s8,s9,DU,HA,yW]=.ok (.nx [s0,s1,s2,s3,.val (.int k),s5,s6,s7,s8,s9,DU,HA,yW]):=by unfold zD;simp_all [CT,Cf h,show(("word":Str)==("word":Str))=true from by decide,cA]
def Ic:Jg (.int 10) (.int 60)=aa (.int (10^60)):=Ra 10 60 (by decide)
def V0(ns:List Int)(h:ns.length<=63):zE [.lst (cH ns)]=.ok (.bl true):=by
 unfold zE Qm;simp_all;have c0:eO [.lst (cH ns),.int 0]=.ok (.int (zF ns 0)):=G9 ns 0;have c1:eO [.lst (cH ns),.int 1]=.ok (.int (zF ns 1)):=G9 ns 1;rw[c0];simp_all;rw[jk _ 1000000007 (by decide)];simp_all;generalize zF ns 0%1000000007=sd;rw[EK sd];have hn:=Dc sd;generalize oN sd=n at hn;simp_all;rw[c1,Ic];simp_all;rw[jk _ (10^60) (by decide)];have hf0:=vm (zF ns 1) (show((10:Int)^60)≠0 by decide);generalize zF ns 1%10^60=f0 at hf0;simp_all;obtain⟨far,Zc⟩:∃far:Int,far=1+f0:=⟨_,rfl⟩
 rw[<-Zc];have hf:1<=far:=by omega
 simp_all [qe,CU];rw[lq (DG _ _ _ _ _ _ _ _ _ _ _ _ _ (k:=0) (by omega)),lq (DG _ _ _ _ _ _ _ _ _ _ _ _ _ (k:=8) (by omega)),lq (DG _ _ _ _ _ _ _ _ _ _ _ _ _ (k:= -1) (by omega)),lq (DG _ _ _ _ _ _ _ _ _ _ _ _ _ (k:=8+far) (by omega)),lq (DG _ _ _ _ _ _ _ _ _ _ _ _ _ (k:= -far) (by omega)),vG];have hi:nQ [.int n]=.ok n:=by unfold nQ;dsimp only;rw[show D.lst []=D.lst (cH [])from rfl,nP,if_pos (AH hn (λk hk=>by cases hk))];rfl
 simp_all [hi,R.dW,gz];rw[BJ _ _ _ (by decide) (by decide)];have hcl:((ns.drop (1:Int).toNat).take ((40:Int).toNat-(1:Int).toNat)).length<=39:=by rw[cC];exact Nat.min_le_left _ _
 generalize (ns.drop (1:Int).toNat).take ((40:Int).toNat-(1:Int).toNat)=cells at hcl;obtain⟨s',e,hJ⟩:=Ew (S:=List (List Int)×List Int×List D×Sl×Sl×Sl×Sl×Sl) (b:=rA) (λi s=>Ch n (s.1++[s.2.1]) s.2.2.1/\(∀k∈s.2.1,wq n k)/\s.2.1.length<=20/\s.2.2.1.length<=i/\s.1.length<=i/\∀v∈s.1,v.length<=20)
  (λs=>[.val (.lst (cH ns)),.val (.int sd),.val (.int n),.val (.int far),.val (.int (-far)),.deep (e7 none (n,s.2.1,s.2.2.1)),.own ((s.1++[s.2.1]).map W),s.2.2.2.1,s.2.2.2.2.1,s.2.2.2.2.2.1,s.2.2.2.2.2.2.1,s.2.2.2.2.2.2.2,.no]) (jo (cH cells)) 0 ([],[],[],.no,.no,.no,.no,.no)
  ⟨.nil,(λk hk=>nomatch hk),yb _,bZ _,bZ _,(λv hv=>nomatch hv)⟩ (by
   rintro j ⟨ps,u,ds,t7,t8,t9,VX,VY⟩ x ⟨h1,h2,h3,h4,h5,h6⟩ hx;dsimp only at h1 h2 h3 h4 h5 h6⊢;obtain⟨c,WE,rfl⟩:=Av hx;have hj:j<cells.length:=(dX.mp WE).1;obtain⟨TJ,u',ds',r7,r8,r9,r10,r11,q1,q2,q3,q4,q5,q6⟩:=VW (far:=far) (.val (.lst (cH ns))) (.val (.int sd)) (.val (.int (-far))) t7 t8 t9 VX VY .no (j:=j) c (by omega) hn h2 h3 h1 (by omega) (by omega);refine⟨(TJ,u',ds',r7,r8,r9,r10,r11),q1,q2,q3,q4,by dsimp only;omega,?_,?_⟩
   ·rcases q6 with rfl|rfl
    ·dsimp only;omega
    ·dsimp only;simp;omega
   ·rcases q6 with rfl|rfl
    ·exact h6
    ·intro v hv
     rcases eU.mp hv with z|z
     ·exact h6 v z
     ·cases Cb.mp z;exact h3)
 obtain⟨ps,u,ds,t7,t8,t9,VX,VY⟩:=s';obtain⟨h1,h2,h3,h4,h5,h6⟩:=hJ;dsimp only at e h1 h2 h3 h4 h5 h6;have hen:(jo (cH cells)).length<=39:=by
  have:(jo (cH cells)).length=cells.length:=by simp[jo,cz]
  omega
 have hsm:∀v∈ps++[u],v.length<=500:=λv hv=>by
  rcases eU.mp hv with z|z
  ·have:=h6 v z;omega
  ·cases Cb.mp z;omega
 obtain⟨t12,w3⟩:=Qn (n:=n) (P:=ps++[u]) (.val (.lst (cH ns))) (.val (.int sd)) (.val (.int n)) (.val (.int far)) (.val (.int (-far))) t7 t8 t9 VX VY ps.length u ds ps .no (by rw[vc (by simp)]) (by simp) h1 hsm;have e':iB rA (jo (cH cells)) [Sl.val (D.lst (cH ns)),Sl.val (D.int sd),Sl.val (D.int n),Sl.val (D.int far),Sl.val (D.int (-far)),Sl.deep (Ct.lm none n [] []),Sl.own [D.lst []],Sl.no,Sl.no,Sl.no,Sl.no,Sl.no,Sl.no]=_:=e;rw[e'];have hlen:((((ps++[u]).map W).length:Nat):Int)=((ps.length+1:Nat):Int):=by simp
 simp_all [hlen];rw[Ln ps.length (by omega)];simp_all;rw[w3];have e0:AG []=.ok (cH []):=rB (by simp);have k0:j9 (.lst (cH [])) (.lst [])=aa (.bl true):=Jy [] [];simp_all [iN,iO,kh,kO,gA,gB,iQ,iP,lF,e9,lG,dR,DB,R.dW,e0,k0,OS,beq_self_eq_true]
def Td{K:aj}{H:Hp}{a:ae}(ns:List Int)(h:ns.length<=63)(hS:lB K H a (ns.map V.int)):Gj K Jo zE [.ref a] H (λv _=>v=.bl true) λ_ _ _=>False:=Vq (V0 ns h) hS
end DL.oh
namespace DL.oh
open PySem PySem.Spec PyProof.Rows L2 DL
section
variable{P:aO}{w:aD}{K:aj}{mg:Str->Option ah}{base:au}(t:Tb K mg)
def zH:Ok P w K mg base 1 t.i5 t.i6 ["n","k"] eI:=by
 have h:=BF (P:=P) (w:=w) (base:=base) (k:=0) xN t.kH λcdv A outer s H E hr=>
  (bG (cG (tV (PE.aE (lM (iM (bB.u6 hr)) gy (nB 1) (PE.aE cI) (aI _))) (uV (lM oF kT (PE.aE (dz gO je t.oV kW (aC (nB 1) bD))) (nB 0) (aI _))))))
 exact h
def z9:Ok P w K mg base 1 t.gG t.gH ["word","p","many"] dN:=by
 have h:=BF (P:=P) (w:=w) (base:=base) (k:=0) zm t.iF λcdv A outer s H E hr=>
  (bG (cG (tV (PE.aE (lM IS Es (nB 1) (PE.aE cI) (aI _))) (uV (lM IQ Er (PE.aE (cu cJ bH (nB 1) (nB 2))) (PE.aE (dz cj cL t.fL cW (aC (nB 0) bD))) (aI _))))))
 exact h
def DH:Ok P w K mg base 1 t.mE t.mG ["_law_cell","_law_k","_law_factor"] jl:=by
 have h:=BF (P:=P) (w:=w) (base:=base) (k:=0) B4 t.pZ λcdv A outer s H E hr=>
  (bG (cG (cu ie iA (PE.aE (cu gE fG (PE.aE (cu A1 yq (PE.aE (cu cJ bH (PE.aE (cu cJ bH (PE.aE (cu A1 yq (PE.aE (cu gE fG (nB 0) (PE.aE cI))) (PE.aE cI))) (PE.aE (cu A1 yq (nB 1) (nB 1))))) (PE.aE cI))) (nB 2))) (PE.aE cI))) (PE.aE cI))))
 exact h
def xQ:Ok P w K mg base 1 t.jQ t.jR ["_law_script","_law_k"] eO:=by
 have h:=BF (P:=P) (w:=w) (base:=base) (k:=0) wy t.jS λcdv A outer s H E hr=>
  (aN (iJ (bX oF kT (nB 1) (PE.aE (dz cj cL t.fL cW (aC (nB 0) bD))) (aI _)) (bG (cG (o8 (nL 0) (nB 1)))) cM)
  (bG (cG cI)))
 exact h
def xR:Ok P w K mg base 1 t.jT t.jU ["_law_seed","_law_least","_law_most"] g7:=by
 have h:=BF (P:=P) (w:=w) (base:=base) (k:=0) oR t.mH λcdv A outer s H E hr=>
  (aN (iJ (lC (bX (bW (bB.u6 hr)) bA (nB 1) (PE.aE cI) (aI _)) (ql (bX (bW (bB.u6 hr)) bA (PE.aE (cu gE fG (nB 0) (PE.aE cI))) (PE.aE cI) (aI _)))).pt (bG (cG cI)) cM)
  (aN (iK 1 (dz (Hi rfl) Jh t.Qg Q5 (aC (PE.aE cI) (aC (nB 1) bD))) oR.nd)
  (bG (cG (cu cJ bH (nB 1) (PE.aE (cu gE fG (PE.aE (cu ie iA (nB 0) (PE.aE cI))) (PE.aE (cu cJ bH (PE.aE (cu ji g4 (nB 2) (nB 1))) (PE.aE cI))))))))))
 exact h
def wL:Ok P w K mg base 1 t.jf t.jg ["_law_number_here","_law_n"] gQ:=by
 have h:=BF (P:=P) (w:=w) (base:=base) (k:=0) nF t.lj λcdv A outer s H E hr=>
  (aN (iK 2 (cu cJ bH (PE.aE cI) (PE.aE (cu gE fG (nB 0) (PE.aE (cu ji g4 (nB 1) (PE.aE cI)))))) nF.nd)
  (aN (iJ (bX (bW (bB.u6 hr)) bA (PE.aE (cu gE fG (PE.aE (cu ie iA (nB 0) (PE.aE cI))) (PE.aE cI))) (PE.aE cI) (aI _)) (bG (cG (zU gk ek (nB 2)))) cM)
  (bG (cG (nD 2)))))
 exact h
def Cg:Lw P w K mg base 1 t.nI t.nJ ["_law_word","_law_deed"] kM:=by
 have h:=U3 (P:=P) (w:=w) (base:=base) (k:=0) tK t.rg λcdv A outer s H E hr=>
  (aN (iK 2 (oJ (nD 1) (PE.aE cI)) tK.nd)
  (aN (iJ (bX (bW (bB.u6 hr)) bA (PE.aE (oJ (nD 1) (PE.aE cI))) (PE.aE cS) (aI _)) (bG (uW (qA (PE.g5 (fU (nL 0) zX (kU (nB 2)))) (PE.g5 (fU (nL 0) (kU (PE.aE (cu cJ bH (nB 2) (PE.aE cI)))) zX))))) cM)
  (aN (iJ (bX (bW (bB.u6 hr)) bA (PE.aE (oJ (nD 1) (PE.aE cI))) (PE.aE cS) (aI _)) (bG (uW (qA (PE.g5 (qA (PE.g5 (fU (nL 0) zX (kU (nB 2)))) (PE.g5 (iV (aJ (oJ (nD 1) (PE.aE cI)) (aJ (zU gk ek (PE.aE (oJ (nD 1) (PE.aE cI)))) dI)))))) (PE.g5 (fU (nL 0) (kU (nB 2)) zX))))) cM)
  (aN (iJ (bX (bW (bB.u6 hr)) bA (PE.aE (oJ (nD 1) (PE.aE cI))) (PE.aE cS) (aI _)) (bG (uW (qA (PE.g5 (qA (PE.g5 (fU (nL 0) zX (kU (nB 2)))) (PE.g5 (iV (aJ (o8 (nL 0) (PE.aE (cu cJ bH (nB 2) (PE.aE cI)))) (aJ (o8 (nL 0) (nB 2)) dI)))))) (PE.g5 (fU (nL 0) (kU (PE.aE (cu cJ bH (nB 2) (PE.aE cI)))) zX))))) cM)
  (bG (uW (qA (PE.g5 (qA (PE.g5 (fU (nL 0) zX (kU (nB 2)))) (PE.g5 (iV (aJ (o8 (nL 0) (PE.aE (cu cJ bH (nB 2) (PE.aE cI)))) (aJ (o8 (nL 0) (nB 2)) (aJ (o8 (nL 0) (PE.aE (cu cJ bH (nB 2) (PE.aE cI)))) dI))))))) (PE.g5 (fU (nL 0) (kU (PE.aE (cu cJ bH (nB 2) (PE.aE cI)))) zX)))))))))
 exact h
def DI:Ok P w K mg base 1 t.p6 t.p7 ["_law_word","_law_n","_law_deed"] mr:=by
 have h:=BF (P:=P) (w:=w) (base:=base) (k:=0) lS t.uj λcdv A outer s H E hr=>
  (aN (iJ (xG (iU (fT (PE.aE (kj mj mm t.aH t.nK (nB 2))))) (xG (bX oF kT (PE.aE (dz cj cL t.fL cW (aC (nB 2) bD))) (PE.aE cI) (aI _)) (zV (iU (fT (PE.aE (kj tY tZ t.aH t.xx (PE.aE (oJ (nD 2) (PE.aE cI)))))))))).pt (bG (cG sI)) cM)
  (aN (By qi rfl (iT (Rg (nD 2) (kU (PE.aE cI)) zX)) (Iw 3 lS.nd) (bG (iJ (xG (iU (fT (PE.aE (kj yX yY t.aH t.AE (nB 3))))) (zV (fT (PE.aE (kj Gs Gu t.aH t.E5 (nB 3)))))).pt (bG (cG sI)) cM)))
  (aN (iK 4 (oJ (nD 2) (PE.aE cI)) lS.nd)
  (aN (iJ (xG (bX oF kT (nB 4) (PE.aE cI) (aI _)) (zV (bX w9 tU (nB 4) (PE.aE (dz cj cL t.fL cW (aC (nB 0) bD))) (aI _)))).pt (bG (cG sI)) cM)
  (aN (iK 5 (PE.iw (fU (nL 0) (kU (nB 4)) (kU (PE.aE (cu cJ bH (nB 4) (PE.aE cI)))))) lS.nd)
  (aN (iJ (bX (bW (bB.u6 hr)) bA (PE.aE (oJ (nD 2) (PE.aE cI))) (PE.aE cS) (aI _)) (bG (cG (tV (PE.aE (lM (bW (bB.u6 hr)) bA (PE.aE (dz cj cL t.fL cW (aC (nB 2) bD))) (PE.aE cI) (aI _))) (uV (QU oF kT oF kT (PE.aE cI) (PE.aE (dz gO je t.oV kW (aC (PE.aE (oJ (nD 2) (PE.aE cI))) bD))) (nB 1)))))) cM)
  (aN (iJ (xG (bX (iM (bB.u6 hr)) gy (PE.aE (dz cj cL t.fL cW (aC (nB 2) bD))) (PE.aE cI) (aI _)) (zV (bX oF kT (PE.aE (dz cj cL t.fL cW (aC (nB 5) bD))) (PE.aE cI) (aI _)))).pt (bG (cG sI)) cM)
  (aN (iJ (bX (bW (bB.u6 hr)) bA (PE.aE (oJ (nD 2) (PE.aE cI))) (PE.aE cS) (aI _)) (bG (cG (lM (bW (bB.u6 hr)) bA (PE.aE (o8 (nL 5) (PE.aE cI))) (PE.aE (zU gk ek (PE.aE (o8 (nL 5) (PE.aE cI))))) (aI _)))) cM)
  (aN (iJ (bX (bW (bB.u6 hr)) bA (PE.aE (oJ (nD 2) (PE.aE cI))) (PE.aE cS) (aI _)) (bG (cG (lM w9 tU (PE.aE (dz gO je t.oV kW (aC (PE.aE (cu ji g4 (PE.aE (dz gO je t.oV kW (aC (PE.aE (o8 (nL 5) (PE.aE cI))) bD))) (PE.aE (dz gO je t.oV kW (aC (PE.aE (o8 (nL 5) (PE.aE cI))) bD))))) bD))) (PE.aE cI) (aI _)))) cM)
  (aN (iJ (xG (bX (iM (bB.u6 hr)) gy (PE.aE (oJ (nD 2) (PE.aE cI))) (PE.aE cS) (aI _)) (zV (bX oF kT (PE.aE (dz cj cL t.fL cW (aC (nB 5) bD))) (PE.aE cI) (aI _)))).pt (bG (cG sI)) cM)
  (bG (cG (tV (PE.aE (lM (bW (bB.u6 hr)) bA (PE.aE (o8 (nL 5) (PE.aE cI))) (PE.aE (o8 (nL 5) (PE.aE cI))) (aI _))) (tV (PE.aE (lM w9 tU (PE.aE (cu A1 yq (PE.aE (o8 (nL 5) (PE.aE cI))) (PE.aE (o8 (nL 5) (PE.aE cI))))) (PE.aE cI) (aI _))) (uV (lM (bW (bB.u6 hr)) bA (PE.aE (dz gO je t.oV kW (aC (PE.aE (cu ji g4 (PE.aE (o8 (nL 5) (PE.aE cI))) (PE.aE (o8 (nL 5) (PE.aE cI))))) bD))) (PE.aE cI) (aI _)))))))))))))))))
 exact h
def zI:Ok P w K mg base 1 t.gR t.gS ["_law_x"] eJ:=by
 have h:=BF (P:=P) (w:=w) (base:=base) (k:=0) xO t.i7 λcdv A outer s H E hr=>
  (bG (cG (tV (PE.aE (kj yX yY t.aH t.AE (nB 0))) (uV (Xy (PE.aE (kj Gs Gu t.aH t.E5 (nB 0))))))))
 exact h
def DJ(gU:Ok P w K mg base 1 t.i5 t.i6 ["n","k"] eI):CY P w K mg base 2 t.l6 t.l7 ["n","word"] gp:=by
 have h:=U6 (P:=P) (w:=w) (base:=base) (k:=1) xr t.jr λcdv A outer s H E hr=>
  (aN (iJ (xG (bX oF kT (nB 0) (PE.aE (Z2 t.nN)) (aI _)) (zV (bX w9 tU (nB 0) (PE.aE (Z2 t.qw)) (aI _)))).pt (bG (BP t.wH hr.hd)) cM)
  (aN (By Ye rfl (iL (nD 1)) (Iw 2 xr.nd) (bG (iJ (iU (fT (PE.aE (wb we t.kH gU (hr.mono (by decide)) (aC (nB 0) (aC (nB 2) bD)))))) (bG (BP t.wH hr.hd)) cM)))
  (bG (cG sI))))
 exact h
def Fg(dw:Ok P w K mg base 1 t.gG t.gH ["word","p","many"] dN):Ok P w K mg base 2 t.sj t.sr ["word","p"] oO:=by
 have h:=BF (P:=P) (w:=w) (base:=base) (k:=1) Dk t.wz λcdv A outer s H E hr=>
  (bG (cG (tV (PE.aE (wb we t.iF dw (hr.mono (by decide)) (aC (nB 0) (aC (nB 1) (aC (PE.aE cI) bD))))) (uV (lM (bW (bB.u6 hr)) bA (PE.aE (o8 (nL 0) (nB 1))) (PE.aE (zU gk ek (PE.aE (o8 (nL 0) (PE.aE (cu cJ bH (nB 1) (PE.aE cI))))))) (aI _))))))
 exact h
def Ie(gU:Ok P w K mg base 1 t.i5 t.i6 ["n","k"] eI)(dw:Ok P w K mg base 1 t.gG t.gH ["word","p","many"] dN):Ok P w K mg base 2 t.vz t.vA ["n","word","p","k"] qV:=by
 have h:=BF (P:=P) (w:=w) (base:=base) (k:=1) E4 t.zq λcdv A outer s H E hr=>
  (bG (cG (tV (PE.aE (wb we t.iF dw (hr.mono (by decide)) (aC (nB 1) (aC (nB 2) (aC (PE.aE cI) bD))))) (uV (wb we t.kH gU (hr.mono (by decide)) (aC (nB 0) (aC (nB 3) bD)))))))
 exact h
def Fi(dw:Ok P w K mg base 1 t.gG t.gH ["word","p","many"] dN):Ok P w K mg base 2 t.sy t.sC ["word","p"] oQ:=by
 have h:=BF (P:=P) (w:=w) (base:=base) (k:=1) Dl t.wA λcdv A outer s H E hr=>
  (bG (cG (tV (PE.aE (wb we t.iF dw (hr.mono (by decide)) (aC (nB 0) (aC (nB 1) (aC (PE.aE cI) bD))))) (uV (lM IS Es (PE.aE (dz gO je t.oV kW (aC (PE.aE (cu ji g4 (PE.aE (dz gO je t.oV kW (aC (PE.aE (o8 (nL 0) (nB 1))) bD))) (PE.aE (dz gO je t.oV kW (aC (PE.aE (o8 (nL 0) (PE.aE (cu cJ bH (nB 1) (PE.aE cI))))) bD))))) bD))) (PE.aE cI) (aI _))))))
 exact h
def DK(dw:Ok P w K mg base 1 t.gG t.gH ["word","p","many"] dN):Ok P w K mg base 2 t.pX t.pY ["word","p"] mw:=by
 have h:=BF (P:=P) (w:=w) (base:=base) (k:=1) B3 t.ui λcdv A outer s H E hr=>
  (aN (iJ (xG (iU (fT (PE.aE (wb we t.iF dw (hr.mono (by decide)) (aC (nB 0) (aC (nB 1) (aC (PE.aE cI) bD))))))) (zV (bX (iM (bB.u6 hr)) gy (PE.aE (o8 (nL 0) (nB 1))) (PE.aE (o8 (nL 0) (PE.aE (cu cJ bH (nB 1) (PE.aE cI))))) (aI _)))).pt (bG (cG sI)) cM)
  (bG (cG (lM (bW (bB.u6 hr)) bA (PE.aE (dz gO je t.oV kW (aC (PE.aE (cu ji g4 (PE.aE (o8 (nL 0) (nB 1))) (PE.aE (o8 (nL 0) (PE.aE (cu cJ bH (nB 1) (PE.aE cI))))))) bD))) (PE.aE cI) (aI _)))))
 exact h
def Aa(ly:Ok P w K mg base 1 t.jf t.jg ["_law_number_here","_law_n"] gQ):Ok P w K mg base 2 t.lT t.lU ["_law_number_here","_law_n"] jO:=by
 have h:=Yb (P:=P) (w:=w) (base:=base) (k:=1) mB t.p4 λcdv A outer s H E hr=>
  (aN (iK 2 (wb we t.lj ly (hr.mono (by decide)) (aC (nB 0) (aC (nB 1) bD))) mB.nd)
  (aN (iJ (xG (bX w9 tU (PE.aE (cu gE fG (PE.aE (cu ie iA (nB 0) (PE.aE cI))) (PE.aE cI))) (PE.aE cI) (aI _)) (zV (bX oF kT (nB 1) (PE.aE cI) (aI _)))).pt (bG (cG (PE.iw (iV (aJ (nD 2) dI))))) cM)
  (aN (iK 3 (Wj (lC (bX oF kT (PE.aE (dz gO je t.oV kW (aC (PE.aE (cu cJ bH (nB 2) (PE.aE cI))) bD))) (nB 1) (aI _)) (ql (bX (iM (bB.u6 hr)) gy (PE.aE (cu cJ bH (nB 2) (PE.aE cI))) (PE.aE cI) (aI _)))).pt (cu cJ bH (nB 2) (PE.aE cI)) (cu ji g4 (nB 2) (PE.aE cI))) mB.nd)
  (bG (cG (o8 (PE.g5 (iV (aJ (PE.iw (iV (aJ (nD 2) (aJ (nD 3) (aJ (nD 2) dI))))) (aJ (PE.iw (iV (aJ (nD 2) (aJ (nD 3) dI)))) (aJ (PE.iw (iV (aJ (nD 2) (aJ (nD 2) dI)))) (aJ (PE.iw (iV (aJ (nD 2) (aJ (zU gk ek (nB 3)) (aJ (nD 2) dI))))) dI)))))) (PE.aE (cu gE fG (PE.aE (cu ie iA (nB 0) (PE.aE cI))) (PE.aE cI)))))))))
 exact h
def wM(eM:Ok P w K mg base 1 t.gR t.gS ["_law_x"] eJ):Ok P w K mg base 2 t.gb t.gf ["_law_found","_law_due_here"] k9:=by
 have h:=BF (P:=P) (w:=w) (base:=base) (k:=1) gC t.gj λcdv A outer s H E hr=>
  (aN (iJ (bX pD lQ (nB 1) (PE.aE cN) (aI _)) (bG (cG (lM pD lQ (nB 0) (PE.aE cN) (aI _)))) cM)
  (aN (iJ (fT (PE.aE (kj yX yY t.aH t.AE (nB 1)))) (bG (cG (tV (PE.aE (wb we t.i7 eM (hr.mono (by decide)) (aC (nB 0) bD))) (uV (lM (bW (bB.u6 hr)) bA (nB 0) (nB 1) (aI _)))))) cM)
  (aN (iJ (fT (PE.aE (kj tY tZ t.aH t.xx (nB 1)))) (bG (cG (tV (PE.aE (kj tY tZ t.aH t.xx (nB 0))) (uV (lM (bW (bB.u6 hr)) bA (nB 0) (nB 1) (aI _)))))) cM)
  (aN (iJ (lC (fT (PE.aE (kj mj mm t.aH t.nK (nB 1)))) (ql (iU (fT (PE.aE (kj mj mm t.aH t.nK (nB 0))))))).pt (bG (cG sI)) cM)
  (aN (iJ (lC (fT (PE.aE (kj rX pP t.aH t.ri (nB 1)))) (ql (iU (fT (PE.aE (kj rX pP t.aH t.ri (nB 0))))))).pt (bG (cG sI)) cM)
  (aN (iJ (bX (iM (bB.u6 hr)) gy (PE.aE (dz cj cL t.fL cW (aC (nB 0) bD))) (PE.aE (dz cj cL t.fL cW (aC (nB 1) bD))) (aI _)) (bG (cG sI)) cM)
  (aN (By qi rfl (XG t.vB (aC (PE.aE (dz cj cL t.fL cW (aC (nB 1) bD))) bD)) (Iw 2 gC.nd) (bG (iJ (iU (fT (PE.aE Yk))) (bG (cG sI)) cM)))
  (bG (cG sI)))))))))
 exact h
def DM(uz:Ok P w K mg base 1 t.p6 t.p7 ["_law_word","_law_n","_law_deed"] mr):Ok P w K mg base 2 t.p8 t.p9 ["_law_n","_law_word","_law_deed"] my:=by
 have h:=BF (P:=P) (w:=w) (base:=base) (k:=1) B5 t.uk λcdv A outer s H E hr=>
  (aN (iJ (bX (bW (bB.u6 hr)) bA (PE.aE (oJ (nD 2) (PE.aE cI))) (PE.aE cS) (aI _)) (bG (cG (Wj (bX (bW (bB.u6 hr)) bA (PE.aE (PE.iw (UM (cpS (N:=["_law_k","_law_n"]) (nt:=1) (caps:=[0]) (az q9) ["_law_n","_law_word","_law_deed"] (by decide +kernel)) rfl (XF (iL (oJ (nD 2) (PE.aE cI)))) (Kp.ok (X9 (nt:=1) 0)) (λ_ _ _ _ _=>(Iw 0 (by show List.Nodup (["_law_k","_law_n"]:List Str);decide +kernel))) (λ_ _ _ _ _=>(ts1 (xG (bX (bW (bB.u6 hr)) bA (nB 0) (PE.aE cI) (aI _)) (zV (bX IS Es (PE.aE (dz gO je t.oV kW (aC (nB 0) bD))) (nB 1) (aI _)))).pt)) (λ_ _ _ _ _=>(nD 0))))) (PE.aE (PE.iw (iV dI))) (aI _)) cS cS))) cM)
  (aN (iJ (bX (bW (bB.u6 hr)) bA (PE.aE (oJ (nD 2) (PE.aE cI))) (PE.aE cS) (aI _)) (bG (cG (Wj (NG IQ Er IQ Er (PE.aE cI) (PE.aE (oJ (nD 2) (PE.aE cI))) (PE.aE (dz cj cL t.fL cW (aC (nB 1) bD)))) cS cS))) cM)
  (bG (cG (Wj (fT (PE.aE (wb we t.uj uz (hr.mono (by decide)) (aC (nB 1) (aC (nB 0) (aC (PE.aE (oJ (nD 2) (PE.aE cI))) bD)))))) cS cS)))))
 exact h
def zJ(rC:Lw P w K mg base 1 t.nI t.nJ ["_law_word","_law_deed"] kM):Ok P w K mg base 2 t.kK t.kL ["_law_word","_law_deed"] iY:=by
 have h:=Yb (P:=P) (w:=w) (base:=base) (k:=1) xP t.ou λcdv A outer s H E hr=>
  (aN (iJ (bX (bW (bB.u6 hr)) bA (PE.aE (oJ (nD 1) (PE.aE cI))) (PE.aE cS) (aI _)) (bG (cG (PE.iw (qA (nL 0) (PE.Uu (oJ (nD 1) (PE.aE cI))))))) cM)
  (aN (iJ (bX (bW (bB.u6 hr)) bA (PE.aE (oJ (nD 1) (PE.aE cI))) (PE.aE cS) (aI _)) (bG (cG (PE.iw (fU (nL 0) zX (kU (PE.aE (cu ji g4 (PE.aE (dz cj cL t.fL cW (aC (nB 0) bD))) (PE.aE (oJ (nD 1) (PE.aE cI)))))))))) cM)
  (bG (cG (PE.iw (ZO t.rg rC (hr.mono (by decide)) (aJ (nD 0) (aJ (oJ (nD 1) (PE.aE cI)) dI))))))))
 exact h
def zK(wN:Ok P w K mg base 2 t.sj t.sr ["word","p"] oO)(zL:Ok P w K mg base 2 t.vz t.vA ["n","word","p","k"] qV)(wO:Ok P w K mg base 2 t.sy t.sC ["word","p"] oQ)(uA:Ok P w K mg base 2 t.pX t.pY ["word","p"] mw):Ok P w K mg base 3 t.kI t.kJ ["n","word","move"] iZ:=by
 have h:=BF (P:=P) (w:=w) (base:=base) (k:=2) lh t.om λcdv A outer s H E hr=>
  (aN (iK 3 (oJ (nD 2) (PE.aE cI)) lh.nd)
  (aN (iK 4 (oJ (nD 2) (PE.aE cI)) lh.nd)
  (aN (iJ (bX (bW (bB.u6 hr)) bA (nB 3) (PE.aE cS) (aI _)) (bG (cG (wb we t.wz wN (hr.mono (by decide)) (aC (nB 1) (aC (nB 4) bD))))) cM)
  (aN (iJ (bX (bW (bB.u6 hr)) bA (nB 3) (PE.aE cS) (aI _)) (bG (cG (wb we t.zq zL (hr.mono (by decide)) (aC (nB 0) (aC (nB 1) (aC (nB 4) (aC (PE.aE (oJ (nD 2) (PE.aE cI))) bD))))))) cM)
  (aN (iJ (bX (bW (bB.u6 hr)) bA (nB 3) (PE.aE cS) (aI _)) (bG (cG (wb we t.wA wO (hr.mono (by decide)) (aC (nB 1) (aC (nB 4) bD))))) cM)
  (bG (cG (wb we t.ui uA (hr.mono (by decide)) (aC (nB 1) (aC (nB 4) bD))))))))))
 exact h
def Ab(kr:Ok P w K mg base 1 t.mE t.mG ["_law_cell","_law_k","_law_factor"] jl)(qj:Ok P w K mg base 2 t.lT t.lU ["_law_number_here","_law_n"] jO):Lw P w K mg base 3 t.lV t.lW ["_law_cells","_law_n","_law_most"] jP:=by
 have h:=U3 (P:=P) (w:=w) (base:=base) (k:=2) g9 t.p5 λcdv A outer s H E hr=>
  (aN (iK 3 (PE.iw (iV dI)) g9.nd)
  (aN (By qi rfl (iE t.rh (nD 0)) (ZQ 2 rfl (yy (Iw 4 g9.nd) (yy (Iw 5 g9.nd) JA))) (bG (iJ (bX w9 tU (nB 1) (PE.aE cI) (aI _)) (bG (iK 3 (PE.iw (qA (nL 3) (PE.Uu (X7 t.p4 qj (hr.mono (by decide)) (aJ (wb we t.pZ kr (hr.mono (by decide)) (aC (nB 5) (aC (nB 4) (aC (PE.aE cI) bD)))) (aJ (nD 1) dI)))))) g9.nd)) cM)))
  (bG (uW (fU (nL 3) zX (kU (nB 2)))))))
 exact h
def wQ(eM:Ok P w K mg base 1 t.gR t.gS ["_law_x"] eJ)(lz:Ok P w K mg base 2 t.gb t.gf ["_law_found","_law_due_here"] k9):Ok P w K mg base 3 t.gb t.gf ["_law_found","_law_due_here"] fV:=by
 have h:=BF (P:=P) (w:=w) (base:=base) (k:=2) gC t.gj λcdv A outer s H E hr=>
  (aN (iJ (bX pD lQ (nB 1) (PE.aE cN) (aI _)) (bG (cG (lM pD lQ (nB 0) (PE.aE cN) (aI _)))) cM)
  (aN (iJ (fT (PE.aE (kj yX yY t.aH t.AE (nB 1)))) (bG (cG (tV (PE.aE (wb we t.i7 eM (hr.mono (by decide)) (aC (nB 0) bD))) (uV (lM (bW (bB.u6 hr)) bA (nB 0) (nB 1) (aI _)))))) cM)
  (aN (iJ (fT (PE.aE (kj tY tZ t.aH t.xx (nB 1)))) (bG (cG (tV (PE.aE (kj tY tZ t.aH t.xx (nB 0))) (uV (lM (bW (bB.u6 hr)) bA (nB 0) (nB 1) (aI _)))))) cM)
  (aN (iJ (lC (fT (PE.aE (kj mj mm t.aH t.nK (nB 1)))) (ql (iU (fT (PE.aE (kj mj mm t.aH t.nK (nB 0))))))).pt (bG (cG sI)) cM)
  (aN (iJ (lC (fT (PE.aE (kj rX pP t.aH t.ri (nB 1)))) (ql (iU (fT (PE.aE (kj rX pP t.aH t.ri (nB 0))))))).pt (bG (cG sI)) cM)
  (aN (iJ (bX (iM (bB.u6 hr)) gy (PE.aE (dz cj cL t.fL cW (aC (nB 0) bD))) (PE.aE (dz cj cL t.fL cW (aC (nB 1) bD))) (aI _)) (bG (cG sI)) cM)
  (aN (By qi rfl (XG t.vB (aC (PE.aE (dz cj cL t.fL cW (aC (nB 1) bD))) bD)) (Iw 2 gC.nd) (bG (iJ (iU (fT (PE.aE (wb we t.gj lz (hr.mono (by decide)) (aC (PE.aE (oJ (nD 0) (nB 2))) (aC (PE.aE (oJ (nD 1) (nB 2))) bD)))))) (bG (cG sI)) cM)))
  (bG (cG sI)))))))))
 exact h
def sS(oA:Ok P w K mg base 3 t.kI t.kJ ["n","word","move"] iZ):CY P w K mg base 4 t.dO t.dP ["n","word","move"] bC:=by
 have h:=U6 (P:=P) (w:=w) (base:=base) (k:=3) sQ t.dQ λcdv A outer s H E hr=>
  (bG (iJ (iU (fT (PE.aE (wb we t.om oA (hr.mono (by decide)) (aC (nB 0) (aC (nB 1) (aC (nB 2) bD))))))) (bG (BP t.wG hr.hd)) cM))
 exact h
def Ac(eM:Ok P w K mg base 1 t.gR t.gS ["_law_x"] eJ)(lA:Ok P w K mg base 3 t.gb t.gf ["_law_found","_law_due_here"] fV):Ok P w K mg base 4 t.gb t.gf ["_law_found","_law_due_here"] f9:=by
 have h:=BF (P:=P) (w:=w) (base:=base) (k:=3) gC t.gj λcdv A outer s H E hr=>
  (aN (iJ (bX pD lQ (nB 1) (PE.aE cN) (aI _)) (bG (cG (lM pD lQ (nB 0) (PE.aE cN) (aI _)))) cM)
  (aN (iJ (fT (PE.aE (kj yX yY t.aH t.AE (nB 1)))) (bG (cG (tV (PE.aE (wb we t.i7 eM (hr.mono (by decide)) (aC (nB 0) bD))) (uV (lM (bW (bB.u6 hr)) bA (nB 0) (nB 1) (aI _)))))) cM)
  (aN (iJ (fT (PE.aE (kj tY tZ t.aH t.xx (nB 1)))) (bG (cG (tV (PE.aE (kj tY tZ t.aH t.xx (nB 0))) (uV (lM (bW (bB.u6 hr)) bA (nB 0) (nB 1) (aI _)))))) cM)
  (aN (iJ (lC (fT (PE.aE (kj mj mm t.aH t.nK (nB 1)))) (ql (iU (fT (PE.aE (kj mj mm t.aH t.nK (nB 0))))))).pt (bG (cG sI)) cM)
  (aN (iJ (lC (fT (PE.aE (kj rX pP t.aH t.ri (nB 1)))) (ql (iU (fT (PE.aE (kj rX pP t.aH t.ri (nB 0))))))).pt (bG (cG sI)) cM)
  (aN (iJ (bX (iM (bB.u6 hr)) gy (PE.aE (dz cj cL t.fL cW (aC (nB 0) bD))) (PE.aE (dz cj cL t.fL cW (aC (nB 1) bD))) (aI _)) (bG (cG sI)) cM)
  (aN (By qi rfl (XG t.vB (aC (PE.aE (dz cj cL t.fL cW (aC (nB 1) bD))) bD)) (Iw 2 gC.nd) (bG (iJ (iU (fT (PE.aE (wb we t.gj lA (hr.mono (by decide)) (aC (PE.aE (oJ (nD 0) (nB 2))) (aC (PE.aE (oJ (nD 1) (nB 2))) bD)))))) (bG (cG sI)) cM)))
  (bG (cG sI)))))))))
 exact h
def xS(qk:Lw P w K mg base 3 t.lV t.lW ["_law_cells","_law_n","_law_most"] jP):Ok P w K mg base 4 t.jV t.jW ["_law_n","_law_word","_law_number_here","_law_far"] g8:=by
 have h:=Yb (P:=P) (w:=w) (base:=base) (k:=3) dC t.mJ λcdv A outer s H E hr=>
  (aN (iK 4 (cu gE fG (nB 2) (PE.aE cI)) dC.nd)
  (aN (iK 2 (cu ie iA (nB 2) (PE.aE cI)) dC.nd)
  (aN (iJ (bX (bW (bB.u6 hr)) bA (nB 4) (PE.aE cI) (aI _)) (aN (iK 5 (PE.iw (ZO t.p5 qk (hr.mono (by decide)) (aJ (PE.iw (iV (aJ (nD 2) (aJ (cu ie iA (nB 2) (PE.aE cI)) dI)))) (aJ (nD 0) (aJ cI dI))))) dC.nd)
  (aN (iK 6 (cu gE fG (PE.aE (cu ie iA (nB 2) (PE.aE cI))) (PE.aE (cu cJ bH (PE.aE (dz cj cL t.fL cW (aC (nB 5) bD))) (PE.aE cI)))) dC.nd)
  (aN (iK 7 (o8 (PE.g5 (iV (aJ (PE.iw (iV dI)) (aJ (PE.iw (iV dI)) (aJ (PE.iw (iV (aJ cI dI))) (aJ (PE.iw (iV (aJ (nD 0) dI))) (aJ (PE.iw (iV (aJ (zU gk ek (nB 0)) dI))) (aJ (PE.iw (iV (aJ (cu cJ bH (nB 0) (nB 3)) dI))) (aJ (PE.iw (iV (aJ (cu ji g4 (PE.aE (zU gk ek (nB 0))) (nB 3)) dI))) dI))))))))) (PE.aE (cu gE fG (PE.aE (cu ie iA (nB 2) (PE.aE cI))) (PE.aE cI)))) dC.nd)
  (bG (cG (zW (aJ cS (aJ (PE.iw (qA (PE.g5 (qA (PE.g5 (fU (nL 5) zX (kU (nB 6)))) (nL 7))) (PE.g5 (fU (nL 5) (kU (nB 6)) zX)))) dI)))))))) cM)
  (aN (iJ (bX (bW (bB.u6 hr)) bA (nB 4) (PE.aE cI) (aI _)) (aN (iK 8 (PE.iw (iV (aJ cI (aJ (dz cj cL t.fL cW (aC (nB 1) bD)) (aJ (cu cJ bH (PE.aE (dz cj cL t.fL cW (aC (nB 1) bD))) (PE.aE cI)) (aJ (zU gk ek (PE.aE cI)) (aJ (cu cJ bH (PE.aE (cu cJ bH (PE.aE (dz cj cL t.fL cW (aC (nB 1) bD))) (PE.aE cI))) (nB 3)) (aJ (cu ji g4 (PE.aE (zU gk ek (PE.aE cI))) (nB 3)) (aJ cI dI))))))))) dC.nd)
  (bG (cG (zW (aJ cS (aJ (o8 (nL 8) (PE.aE (cu gE fG (nB 2) (PE.aE cI)))) dI)))))) cM)
  (aN (iK 6 (o8 (PE.g5 (iV (aJ cI (aJ (cu gE fG (PE.aE (cu ie iA (nB 2) (PE.aE cI))) (PE.aE (cu cJ bH (PE.aE (dz cj cL t.fL cW (aC (nB 1) bD))) (PE.aE cI)))) (aJ (dz cj cL t.fL cW (aC (nB 1) bD)) (aJ (zU gk ek (PE.aE cI)) (aJ (cu cJ bH (PE.aE (dz cj cL t.fL cW (aC (nB 1) bD))) (PE.aE cI)) (aJ (nD 3) (aJ (zU gk ek (nB 3)) dI))))))))) (PE.aE (cu gE fG (nB 2) (PE.aE cI)))) dC.nd)
  (aN (iJ (bX (bW (bB.u6 hr)) bA (PE.aE (cu gE fG (PE.aE (cu ie iA (nB 2) (PE.aE cI))) (PE.aE cI))) (PE.aE cI) (aI _)) (bG (cG (zW (aJ cS (aJ (zW (aJ cS (aJ (nD 6) (aJ (o8 (PE.g5 (iV (aJ cI (aJ (zU gk ek (PE.aE cI)) (aJ (cu ji g4 (nB 0) (PE.aE cI)) (aJ (cu ji g4 (PE.aE cI) (nB 0)) (aJ cI (aJ (nD 0) (aJ (zU gk ek (nB 0)) (aJ (cu cJ bH (nB 0) (nB 3)) (aJ (cu ji g4 (PE.aE (zU gk ek (nB 0))) (nB 3)) dI))))))))))) (PE.aE (cu gE fG (PE.aE (cu ie iA (nB 2) (PE.aE cI))) (PE.aE cI)))) dI)))) dI))))) cM)
  (bG (cG (zW (aJ cS (aJ (zW (aJ (o8 (PE.g5 (iV (aJ cS (aJ cS (aJ cS dI))))) (PE.aE (cu gE fG (PE.aE (cu ie iA (nB 2) (PE.aE cI))) (PE.aE cI)))) (aJ (nD 6) dI))) dI)))))))))))
 exact h
def Ig(cU:CY P w K mg base 4 t.dO t.dP ["n","word","move"] bC):HF P w K mg base 5 t.sE t.sF ["n","word","move"] qX:=by
 have h:=U7 (P:=P) (w:=w) (base:=base) (k:=4) wx t.nH λcdv A outer s H E hr=>
  (aN (O7 (PE.aE (ZV U8 t.dQ cU (hr.mono (by decide)) (aC (nB 0) (aC (nB 1) (aC (nB 2) bD))))))
  (aN (iK 3 (oJ (nD 2) (PE.aE cI)) wx.nd)
  (aN (iK 4 (oJ (nD 2) (PE.aE cI)) wx.nd)
  (aN (iJ (bX (bW (bB.u6 hr)) bA (nB 3) (PE.aE cS) (aI _)) (bG (uW (qA (PE.g5 (fU (nL 1) zX (kU (nB 4)))) (PE.g5 (fU (nL 1) (kU (PE.aE (cu cJ bH (nB 4) (PE.aE cI)))) zX))))) cM)
  (aN (iJ (bX (bW (bB.u6 hr)) bA (nB 3) (PE.aE cS) (aI _)) (bG (uW (qA (PE.g5 (qA (PE.g5 (fU (nL 1) zX (kU (nB 4)))) (PE.g5 (iV (aJ (oJ (nD 2) (PE.aE cI)) (aJ (zU gk ek (PE.aE (oJ (nD 2) (PE.aE cI)))) dI)))))) (PE.g5 (fU (nL 1) (kU (nB 4)) zX))))) cM)
  (aN (iJ (bX (bW (bB.u6 hr)) bA (nB 3) (PE.aE cS) (aI _)) (bG (uW (qA (PE.g5 (qA (PE.g5 (fU (nL 1) zX (kU (nB 4)))) (PE.g5 (iV (aJ (o8 (nL 1) (PE.aE (cu cJ bH (nB 4) (PE.aE cI)))) (aJ (o8 (nL 1) (nB 4)) dI)))))) (PE.g5 (fU (nL 1) (kU (PE.aE (cu cJ bH (nB 4) (PE.aE cI)))) zX))))) cM)
  (bG (uW (qA (PE.g5 (qA (PE.g5 (fU (nL 1) zX (kU (nB 4)))) (PE.g5 (iV (aJ (o8 (nL 1) (PE.aE (cu cJ bH (nB 4) (PE.aE cI)))) (aJ (o8 (nL 1) (nB 4)) (aJ (o8 (nL 1) (PE.aE (cu cJ bH (nB 4) (PE.aE cI)))) dI))))))) (PE.g5 (fU (nL 1) (kU (PE.aE (cu cJ bH (nB 4) (PE.aE cI)))) zX)))))))))))
 exact h
def Ad(cU:CY P w K mg base 4 t.dO t.dP ["n","word","move"] bC):CY P w K mg base 5 t.jt t.ju ["n","word","move"] vv:=by
 have h:=Yd (P:=P) (w:=w) (base:=base) (k:=4) oi t.jv λcdv A outer s H E hr=>
  (aN (O7 (PE.aE (ZV U8 t.dQ cU (hr.mono (by decide)) (aC (nB 0) (aC (nB 1) (aC (nB 2) bD))))))
  (aN (iK 3 (oJ (nD 2) (PE.aE cI)) oi.nd)
  (aN (iK 4 (oJ (nD 2) (PE.aE cI)) oi.nd)
  (aN (iJ (bX (bW (bB.u6 hr)) bA (nB 3) (PE.aE cS) (aI _)) (bG (cG (zW (aJ cS (aJ (nD 4) (aJ (o8 (nL 1) (nB 4)) dI)))))) cM)
  (aN (iJ (bX (bW (bB.u6 hr)) bA (nB 3) (PE.aE cS) (aI _)) (bG (cG (zW (aJ cS (aJ (nD 4) dI))))) cM)
  (bG (cG (zW (aJ (nD 3) (aJ (nD 4) dI))))))))))
 exact h
def xT(tl:TL K mg)(GI:fz P w K mg base (jz P w) 3 tl.fi tl.di ["self","n"] (NJ K nQ))(sH:vN P w K mg base (jz P w) 3 tl.fd tl.dd ["self","many"] kN)(AJ:vN P w K mg base (jz P w) 6 tl.fg tl.dg ["self","move"] D3)(lX:vN P w K mg base (jz P w) 3 tl.fh tl.dh ["self","word"] jY):Ok P w K mg base 7 t.fJ t.fK ["_law_loom","_law_kind","_law_part"] hU:=by
 have h:=BF (P:=P) (w:=w) (base:=base) (k:=6) dB t.eQ λcdv A outer s H E hr=>
  (aN (iK 3 cN dB.nd)
  (aN (Vc 4 t.mK (HL (bX (bW (bB.u6 hr)) bA (nB 1) (PE.aE cS) (aI _)) (wj 0 tl.T.lo tl.Mh tl.Bh lX (hr.mono (by decide)) (aJ (nD 2) dI)) (HL (bX (bW (bB.u6 hr)) bA (nB 1) (PE.aE cS) (aI _)) (wj 0 tl.T.lo tl.Md tl.Bd sH (hr.mono (by decide)) (aJ (nD 2) dI)) (HL (bX (bW (bB.u6 hr)) bA (nB 1) (PE.aE cS) (aI _)) (wj 0 tl.T.lo tl.Mg tl.Bg AJ (hr.mono (by decide)) (aJ (nD 2) dI)) (JT tl.T.lo tl.MK GI (hr.mono (by decide)) tl.Bi tl.mc (aC (nB 2) bD))))) (λ_=>(bG (iK 3 (nD 4) dB.nd))) dB.nd rfl)
  (aN (iJ (bX pD lQ (nB 3) (PE.aE cN) (aI _)) (bG (cG cS)) cM)
  (aN (iJ (fT (PE.aE (Qa t.bI t.aH (nB 3) (GP t.oy (GP t.um (GP t.wC (GP t.zt (GP t.rm (GP t.uq (GP t.wF Z0)))))))))) (bG (cG cS)) cM)
  (aN (iJ (lC (fT (PE.aE (C1 t.oZ t.oX t.aH (nB 3)))) (lC (iU (fT (PE.aE (C1 t.oY t.oW t.aH (nB 3))))) (ql (fT (PE.aE (GO t.i8 kG t.jX t.aH (nB 3))))))).pt (bG (cG cS)) cM)
  (aN (iJ (lC (fT (PE.aE (C1 t.oY t.oW t.aH (nB 3)))) (lC (iU (fT (PE.aE (C1 t.oZ t.oX t.aH (nB 3))))) (ql (fT (PE.aE (GO t.i8 kG t.jX t.aH (nB 3))))))).pt (bG (cG cS)) cM)
  (bG (cG cS))))))))
 exact h
def wR(tl:TL K mg)(GI:fz P w K mg base (jz P w) 3 tl.fi tl.di ["self","n"] (NJ K nQ))(sH:vN P w K mg base (jz P w) 3 tl.fd tl.dd ["self","many"] kN)(AJ:vN P w K mg base (jz P w) 6 tl.fg tl.dg ["self","move"] D3)(lX:vN P w K mg base (jz P w) 3 tl.fh tl.dh ["self","word"] jY):vN P w K mg base lL 7 t.fJ t.fK ["_law_loom","_law_kind","_law_part"] cR:=by
 have h:=VP (P:=P) (w:=w) (base:=base) (k:=6) t.eQ.F dB λcdv A outer s H E hr=>
  (aN (iK 3 cN dB.nd)
  (aN (Vc 4 t.mK (HL (bX (bW (bB.u6 hr)) bA (nB 1) (PE.aE cS) (aI _)) (wj 0 tl.T.lo tl.Mh tl.Bh lX (hr.mono (by decide)) (aJ (nD 2) dI)) (HL (bX (bW (bB.u6 hr)) bA (nB 1) (PE.aE cS) (aI _)) (wj 0 tl.T.lo tl.Md tl.Bd sH (hr.mono (by decide)) (aJ (nD 2) dI)) (HL (bX (bW (bB.u6 hr)) bA (nB 1) (PE.aE cS) (aI _)) (wj 0 tl.T.lo tl.Mg tl.Bg AJ (hr.mono (by decide)) (aJ (nD 2) dI)) (JT tl.T.lo tl.MK GI (hr.mono (by decide)) tl.Bi tl.mc (aC (nB 2) bD))))) (λ_=>(bG (iK 3 (nD 4) dB.nd))) dB.nd rfl)
  (aN (iJ (bX pD lQ (nB 3) (PE.aE cN) (aI _)) (bG (za cS)) cM)
  (aN (iJ (fT (PE.aE (Qa t.bI t.aH (nB 3) (GP t.oy (GP t.um (GP t.wC (GP t.zt (GP t.rm (GP t.uq (GP t.wF Z0)))))))))) (bG (za cS)) cM)
  (aN (iJ (lC (fT (PE.aE (C1 t.oZ t.oX t.aH (nB 3)))) (lC (iU (fT (PE.aE (C1 t.oY t.oW t.aH (nB 3))))) (ql (fT (PE.aE (GO t.i8 kG t.jX t.aH (nB 3))))))).pt (bG (za cS)) cM)
  (aN (iJ (lC (fT (PE.aE (C1 t.oY t.oW t.aH (nB 3)))) (lC (iU (fT (PE.aE (C1 t.oZ t.oX t.aH (nB 3))))) (ql (fT (PE.aE (GO t.i8 kG t.jX t.aH (nB 3))))))).pt (bG (za cS)) cM)
  (bG (za cS))))))))
 exact h _ DC mP
def vL(tl:TL K mg)(dU:vN P w K mg base lL 7 t.fJ t.fK ["_law_loom","_law_kind","_law_part"] cR)(lX:vN P w K mg base (jz P w) 3 tl.fh tl.dh ["self","word"] jY)(GN:fz P w K mg base lL 1 tl.fn tl.dn ["self"] (WB K))(nS:vN P w K mg base lL 6 tl.fu tl.du ["self"] lE):vN P w K mg base lL 8 t.iG t.iH ["_law_loom","_law_word"] xC:=by
 have h:=VP (P:=P) (w:=w) (base:=base) (k:=7) t.ko.F mC λcdv A outer s H E hr=>
  (aN (iK 2 (cu cJ bH (PE.aE (dz cj cL t.fL cW (aC (nB 1) bD))) (PE.aE cI)) mC.nd)
  (aN (HM (C5 (iM (bB.u6 hr)) gy (zc 0 t.eQ dU mP (hr.mono (by decide)) (aJ cS (aJ (nD 2) dI))) (PE.aE cS) (aI _)) (bG (za sI)) cM)
  (aN (Rt (Vn 0 tl.T.lo tl.Mh tl.Bh (vN.calm lX) (λ_ _ _=>Au) (hr.mono (by decide)) (aJ (PE.iw (iV (aJ cI dI))) dI)))
  (aN (HM (Ys (C5 (iM (bB.u6 hr)) gy (zc 0 t.eQ dU mP (hr.mono (by decide)) (aJ cS (aJ (nD 2) dI))) (PE.aE cS) (aI _)) (Rn (C4 (bX (iM (bB.u6 hr)) gy (PE.aE (PE.iw (JS 0 tl.T.lo tl.Mn tl.Bn GN (hr.mono (by decide))))) (PE.aE (PE.iw (iV dI))) (aI _))))).pt (bG (za sI)) cM)
  (bG (Rq (Rp (Ro JN EC (BW 0 tl.T.lo tl.Mu tl.Bu nS yL (hr.mono (by decide))) (PE.aE sI) (aI _)) (Rp (Ro JN EC (BW 0 tl.T.lo tl.Mu tl.Bu nS yL (hr.mono (by decide))) (PE.aE sI) (aI _)) (Vj (Qe (PE.aE (lM (bW (bB.u6 hr)) bA (PE.aE (PE.iw (JS 0 tl.T.lo tl.Mn tl.Bn GN (hr.mono (by decide))))) (nB 1) (aI _)))))))))))))
 exact h _ Ll G5
def Te(tl:TL K mg)(kr:Ok P w K mg base 1 t.mE t.mG ["_law_cell","_law_k","_law_factor"] jl)(j4:Ok P w K mg base 1 t.jQ t.jR ["_law_script","_law_k"] eO)(mR:Ok P w K mg base 1 t.jT t.jU ["_law_seed","_law_least","_law_most"] g7)(lY:Ok P w K mg base 4 t.gb t.gf ["_law_found","_law_due_here"] f9)(mT:Ok P w K mg base 7 t.fJ t.fK ["_law_loom","_law_kind","_law_part"] hU)(mU:Ok P w K mg base 4 t.jV t.jW ["_law_n","_law_word","_law_number_here","_law_far"] g8)(uB:Ok P w K mg base 2 t.p8 t.p9 ["_law_n","_law_word","_law_deed"] my)(oB:Ok P w K mg base 2 t.kK t.kL ["_law_word","_law_deed"] iY)(GI:fz P w K mg base (jz P w) 3 tl.fi tl.di ["self","n"] (NJ K nQ))(j5:vN P w K mg base lL 8 t.iG t.iH ["_law_loom","_law_word"] xC)(dU:vN P w K mg base lL 7 t.fJ t.fK ["_law_loom","_law_kind","_law_part"] cR)(GN:fz P w K mg base lL 1 tl.fn tl.dn ["self"] (WB K))(nS:vN P w K mg base lL 6 tl.fu tl.du ["self"] lE):Ok P w K mg base 9 t.K9 t.GX ["_law_script"] zE:=by
 have h:=BF (P:=P) (w:=w) (base:=base) (k:=8) iD t.Qf λcdv A outer s H E hr=>
  (aN (iK 1 (cu gE fG (PE.aE (wb we t.jS j4 (hr.mono (by decide)) (aC (nB 0) (aC (PE.aE cI) bD)))) (PE.aE cI)) iD.nd)
  (aN (iK 2 (wb we t.mH mR (hr.mono (by decide)) (aC (nB 1) (aC (PE.aE cI) (aC (PE.aE cI) bD)))) iD.nd)
  (aN (iK 3 (cu cJ bH (PE.aE cI) (PE.aE (cu gE fG (PE.aE (wb we t.jS j4 (hr.mono (by decide)) (aC (nB 0) (aC (PE.aE cI) bD)))) (PE.aE (cu QH MN (PE.aE cI) (PE.aE cI)))))) iD.nd)
  (aN (By qi rfl (iT (zW (aJ cI (aJ cI (aJ (zU gk ek (PE.aE cI)) (aJ (cu cJ bH (PE.aE cI) (nB 3)) (aJ (zU gk ek (nB 3)) dI))))))) (Iw 4 iD.nd) (bG (iJ (bX (iM (bB.u6 hr)) gy (PE.aE (wb we t.eQ mT (hr.mono (by decide)) (aC (PE.aE cN) (aC (PE.aE cS) (aC (nB 4) bD))))) (PE.aE cS) (aI _)) (bG (cG sI)) cM)))
  (aN (Vp 5 tl.T.lo tl.MK (Vo GI) (λ_ _=>Au) (hr.mono (by decide)) tl.Bi tl.mc (aC (nB 2) bD) iD.nd)
  (aN (UB 6 (iV (aJ (PE.iw (iV dI)) dI)) iD.nd)
  (aN (By qi rfl (iE t.rh (PE.iw (fU (nL 0) (kU (PE.aE cI)) (kU (PE.aE cI))))) (ZQ 2 rfl (yy (Iw 7 iD.nd) (yy (Iw 8 iD.nd) JA))) (aN (iK 9 (o8 (nL 6) (PE.aE (zU gk ek (PE.aE cI)))) iD.nd)
  (aN (iK 10 (X7 t.mJ mU (hr.mono (by decide)) (aJ (nD 2) (aJ (nD 9) (aJ (wb we t.pZ kr (hr.mono (by decide)) (aC (nB 8) (aC (nB 7) (aC (PE.aE cI) bD)))) (aJ (nD 3) dI))))) iD.nd)
  (aN (iK 11 (wb we t.uk uB (hr.mono (by decide)) (aC (nB 2) (aC (nB 9) (aC (nB 10) bD)))) iD.nd)
  (aN (HM (Vi (C4 (bX (iM (bB.u6 hr)) gy (nB 11) (PE.aE cS) (aI _))) (Qd (C5 (iM (bB.u6 hr)) gy (zc 5 t.eQ dU mP (hr.mono (by decide)) (aJ (oJ (nD 10) (PE.aE cI)) (aJ (oJ (nD 10) (PE.aE cI)) dI))) (nB 11) (aI _)))).pt (bG (cG sI)) cM)
  (aN (iJ (xG (bX (iM (bB.u6 hr)) gy (nB 11) (PE.aE cS) (aI _)) (xG (bX oF kT (PE.aE (dz cj cL t.fL cW (aC (nB 9) bD))) (PE.aE cI) (aI _)) (zV (bX (bW (bB.u6 hr)) bA (PE.aE (oJ (nD 10) (PE.aE cI))) (PE.aE cS) (aI _))))).pt (aN (HM (C5 (iM (bB.u6 hr)) gy (zc 5 t.eQ dU mP (hr.mono (by decide)) (aJ (oJ (nD 10) (PE.aE cI)) (aJ (oJ (nD 10) (PE.aE cI)) dI))) (nB 11) (aI _)) (bG (cG sI)) cM)
  (bG (iJ (bX (bW (bB.u6 hr)) bA (nB 11) (PE.aE cS) (aI _)) (bG (U1 6 (X7 t.ou oB (hr.mono (by decide)) (aJ (nD 9) (aJ (nD 10) dI))))) cM))) cM)
  (bG (HM (Ys (C4 (iU (fT (PE.aE (wb we t.gj lY (hr.mono (by decide)) (aC (PE.aE (PE.iw (JS 5 tl.T.lo tl.Mn tl.Bn GN (hr.mono (by decide))))) (aC (PE.aE (o8 (nL 6) (PE.aE (zU gk ek (PE.aE cI))))) bD))))))) (Rn (Vi (C4 (bX w9 tU (nB 2) (PE.aE cI) (aI _))) (Qd (Yr (Yt (zc 5 t.ko j5 G5 (hr.mono (by decide)) (aJ (o8 (nL 6) (PE.aE (zU gk ek (PE.aE cI)))) dI)))))).pt)).pt (bG (cG sI)) cM))))))))
  (aN (By qi rfl (iR3 t.vB (aC (PE.aE (cu ji g4 (PE.aE (dz cj cL t.fL cW (aC (nB 6) bD))) (PE.aE cI))) (aC (PE.aE cI) (aC (PE.aE (zU gk ek (PE.aE cI))) bD)))) (Iw 12 iD.nd) (bG (HM (Ys (C4 (iU (fT (PE.aE (wb we t.gj lY (hr.mono (by decide)) (aC (PE.aE (PE.iw (JS 5 tl.T.lo tl.Mn tl.Bn GN (hr.mono (by decide))))) (aC (PE.aE (o8 (nL 6) (nB 12))) bD))))))) (Rn (C5 JO HJ (BW 5 tl.T.lo tl.Mu tl.Bu nS yL (hr.mono (by decide))) (PE.aE sI) (aI _)))).pt (bG (cG sI)) cM)))
  (bG (Vl (Rp (Qe (PE.aE (lM (bW (bB.u6 hr)) bA (PE.aE (PE.iw (JS 5 tl.T.lo tl.Mn tl.Bn GN (hr.mono (by decide))))) (PE.aE (PE.iw (iV dI))) (aI _)))) (Vj (Ro JN EC (BW 5 tl.T.lo tl.Mu tl.Bu nS yL (hr.mono (by decide))) (PE.aE sI) (aI _))))))))))))))
 exact h
end
@[irreducible] noncomputable def Kw (w:aD):aj:=H.K w.params
def Qo(w:aD):Kw w=H.K w.params:=by kernel_rfl
def wU{K:aj}{h:au}{mg:Str->Option ah}{x:String}{st:aB}{ps:List Str}{f c:ae}{m:ah}(X:K.In h)(G:h.Ns bU mg)
  (e:(cV K bU (cZ x),K.lookup f,uM K (.ref c) (cZ x),jF K (.ref f))=(aa (aa (.ref f)),aa (DL.H.hf (cZ x) (cZ x) st m c),true,true))
  (hb:∀(kV doc pm:ah)(an:Option ae)(cdv ct:ah)(us:List ah),us.length=ps.length->jG (fE (cZ x) (cZ x) (gZ st) (dm st) (az st) .none kV doc pm an cdv ct) ⟨us,[]⟩=bJ (ps.zip us)):
  Df K mg (cZ x) st ps f (fE (cZ x) (cZ x) (gZ st) (dm st) (az st) .none .none .none m none (.ref c) .none):=dfm X G (congrArg (·.1) e) (congrArg (·.2.1) e) (congrArg (·.2.2.1) e) (congrArg (·.2.2.2) e) hb
def WI{x q:Str}{a:uL}{b:List aB}{s:cO}{p0:Str}(h:∀(kV doc pm:ah)(an:Option ae)(cdv ct v0:ah),jG (fE x q a b s .none kV doc pm an cdv ct) ⟨[v0],[]⟩=bJ [(p0,v0)])(kV doc pm:ah)(an:Option ae)(cdv ct:ah)(us:List ah)(hl:us.length=[p0].length):jG (fE x q a b s .none kV doc pm an cdv ct) ⟨us,[]⟩=bJ ([p0].zip us):=match us,hl with|[v0],_=>h _ _ _ _ _ _ _
def D4{x q:Str}{a:uL}{b:List aB}{s:cO}{p0 p1:Str}(h:∀(kV doc pm:ah)(an:Option ae)(cdv ct v0 v1:ah),jG (fE x q a b s .none kV doc pm an cdv ct) ⟨[v0,v1],[]⟩=bJ [(p0,v0),(p1,v1)])(kV doc pm:ah)(an:Option ae)(cdv ct:ah)(us:List ah)(hl:us.length=[p0,p1].length):jG (fE x q a b s .none kV doc pm an cdv ct) ⟨us,[]⟩=bJ ([p0,p1].zip us):=match us,hl with|[v0,v1],_=>h _ _ _ _ _ _ _ _
def Lp{x q:Str}{a:uL}{b:List aB}{s:cO}{p0 p1 p2:Str}(h:∀(kV doc pm:ah)(an:Option ae)(cdv ct v0 v1 v2:ah),jG (fE x q a b s .none kV doc pm an cdv ct) ⟨[v0,v1,v2],[]⟩=bJ [(p0,v0),(p1,v1),(p2,v2)])(kV doc pm:ah)(an:Option ae)(cdv ct:ah)(us:List ah)(hl:us.length=[p0,p1,p2].length):jG (fE x q a b s .none kV doc pm an cdv ct) ⟨us,[]⟩=bJ ([p0,p1,p2].zip us):=match us,hl with|[v0,v1,v2],_=>h _ _ _ _ _ _ _ _ _
def bd4{x q:Str}{a:uL}{b:List aB}{s:cO}{p0 p1 p2 p3:Str}(h:∀(kV doc pm:ah)(an:Option ae)(cdv ct v0 v1 v2 v3:ah),jG (fE x q a b s .none kV doc pm an cdv ct) ⟨[v0,v1,v2,v3],[]⟩=bJ [(p0,v0),(p1,v1),(p2,v2),(p3,v3)])(kV doc pm:ah)(an:Option ae)(cdv ct:ah)(us:List ah)(hl:us.length=[p0,p1,p2,p3].length):jG (fE x q a b s .none kV doc pm an cdv ct) ⟨us,[]⟩=bJ ([p0,p1,p2,p3].zip us):=match us,hl with|[v0,v1,v2,v3],_=>h _ _ _ _ _ _ _ _ _ _
def TN(K:aj){C:ae}{x q:String}{st:aB}{f c:ae}{m:ah}
  (e:(eZ K (.ref C) (cZ x),A6 K (.ref f),K.lookup f,uM K (.ref c) (cZ q),jF K (.ref f))=(aa (aa (.ref f)),true,aa (DL.H.hf (cZ x) (cZ q) st m c),true,true)):
  Br K (cZ x) (cZ q) st f (fE (cZ x) (cZ q) (gZ st) (dm st) (az st) .none .none .none m none (.ref c) .none)/\Meth K C (cZ x) f:=
 ⟨Em (congrArg (·.2.2.1) e) (congrArg (·.2.2.2.1) e) (congrArg (·.2.2.2.2) e),congrArg (·.1) e,congrArg (·.2.1) e,congrArg (·.2.2.2.2) e⟩
def all_mk{l:Gg}{w:aD}{h:au}{mg:Str->Option ah}{fa:ae}(X:(Kw w).In h)(G:h.Ns bU mg)(hfa:mg "law"=aa (.ref fa)):
  ∃fd:aL,(∀(s:ai)(v:ah),rN s fd ⟨[v],[]⟩ [("_law_script",v)])/\∀base:au,(Kw w).In base->base.Ns bU mg->fz l.prog w (Kw w) mg base lL 9 fa fd ["_law_script"] (Gj (Kw w) Jo zE):=by
 have e:=hfa.symm.trans (fZ X G (show cV (Kw w) bU "law"=aa (aa (.ref 399))by kernel_rfl));cases e;have yC:cV (Kw w) bU "Loom"=aa (aa (.ref 285)):=by kernel_rfl
 have ypg:x8 (Kw w) 285 FU=true:=by kernel_rfl
 have yhd:A5 (Kw w) 285=true:=by kernel_rfl
 have ypo:FO (Kw w) 285=true:=by kernel_rfl
 have ysa:eZ (Kw w) (.ref 285) "__setattr__"=aa (aa (.builtin "object.__setattr__")):=by kernel_rfl
 have ymk:FQ (Kw w) 285=true:=by kernel_rfl
 have ykc:jF (Kw w) (.ref 285)=true:=by kernel_rfl
 have yn0:eZ (Kw w) (.ref 285) "n"=aa none:=by kernel_rfl
 have yn1:eZ (Kw w) (.ref 285) "held"=aa none:=by kernel_rfl
 have yn2:eZ (Kw w) (.ref 285) "backs"=aa none:=by kernel_rfl
 have Ae:cV (Kw w) bU "BadPicture"=aa (aa (.ref 128)):=by kernel_rfl
 have Fj:cV (Kw w) bU "BadText"=aa (aa (.ref 56)):=by kernel_rfl
 have tP:cV (Kw w) bU "BraidError"=aa (aa (.ref 31)):=by kernel_rfl
 have Ih:cV (Kw w) bU "NoForm"=aa (aa (.ref 92)):=by kernel_rfl
 have jw:cV (Kw w) bU "NoMove"=aa (aa (.ref 68)):=by kernel_rfl
 have Lq:cV (Kw w) bU "NoRow"=aa (aa (.ref 80)):=by kernel_rfl
 have DN:cV (Kw w) bU "NoString"=aa (aa (.ref 116)):=by kernel_rfl
 have jx:cV (Kw w) bU "NoWord"=aa (aa (.ref 44)):=by kernel_rfl
 have Fl:cV (Kw w) bU "TooMany"=aa (aa (.ref 140)):=by kernel_rfl
 have Ii:cV (Kw w) bU "Unlike"=aa (aa (.ref 104)):=by kernel_rfl
 have o6:Ww (Kw w) 68=true:=by kernel_rfl
 have o7:Ww (Kw w) 44=true:=by kernel_rfl
 have rD:GL (Kw w) (.ref 68) (.ref 31)=aa true:=by kernel_rfl
 have rE:GL (Kw w) (.ref 44) (.ref 31)=aa true:=by kernel_rfl
 have Ij:ig (Kw w) (.type "NoneType") (.ref 68)=aa false:=by kernel_rfl
 have wV:ig (Kw w) (.ref 68) (.ref 68)=aa (sL "NoMove" "NoMove"):=by kernel_rfl
 have wW:ig (Kw w) (.ref 44) (.ref 68)=aa (sL "NoMove" "NoWord"):=by kernel_rfl
 have Ik:ig (Kw w) (.type "NoneType") (.ref 44)=aa false:=by kernel_rfl
 have wX:ig (Kw w) (.ref 68) (.ref 44)=aa (sL "NoWord" "NoMove"):=by kernel_rfl
 have wY:ig (Kw w) (.ref 44) (.ref 44)=aa (sL "NoWord" "NoWord"):=by kernel_rfl
 have Af:ig (Kw w) (.type "NoneType") (.type "ValueError")=aa false:=by kernel_rfl
 have rF:ig (Kw w) (.ref 68) (.type "ValueError")=aa (sL "ValueError" "NoMove"):=by kernel_rfl
 have rG:ig (Kw w) (.ref 44) (.type "ValueError")=aa (sL "ValueError" "NoWord"):=by kernel_rfl
 have Zd:yF (Kw w) (.type "NoneType") [aS 128,aS 56,aS 92,aS 80,aS 116,aS 140,aS 104]=aa false:=by kernel_rfl
 have DP:yF (Kw w) (.ref 68) [aS 128,aS 56,aS 92,aS 80,aS 116,aS 140,aS 104]=aa (any ["BadPicture","BadText","NoForm","NoRow","NoString","TooMany","Unlike"] (sL · "NoMove")):=by kernel_rfl
 have DQ:yF (Kw w) (.ref 44) [aS 128,aS 56,aS 92,aS 80,aS 116,aS 140,aS 104]=aa (any ["BadPicture","BadText","NoForm","NoRow","NoString","TooMany","Unlike"] (sL · "NoWord")):=by kernel_rfl
 let t:Tb (Kw w) mg:={i5:=149,i6:=_,kH:=wU X G (c:=148) (m:=H.w2) (by kernel_rfl) (D4 λ_ _ _ _ _ _ _ _=>rfl),l6:=156,l7:=_,jr:=wU X G (c:=155) (m:=H.w2) (by kernel_rfl) (D4 λ_ _ _ _ _ _ _ _=>rfl),gG:=163,gH:=_,iF:=wU X G (c:=162) (m:=H.w3) (by kernel_rfl) (Lp λ_ _ _ _ _ _ _ _ _=>rfl),sj:=170,sr:=_,wz:=wU X G (c:=169) (m:=H.w3) (by kernel_rfl) (D4 λ_ _ _ _ _ _ _ _=>rfl),vz:=177,vA:=_,zq:=wU X G (c:=176) (m:=H.w3) (by kernel_rfl) (bd4 λ_ _ _ _ _ _ _ _ _ _=>rfl),sy:=184,sC:=_,wA:=wU X G (c:=183) (m:=H.w3) (by kernel_rfl) (D4 λ_ _ _ _ _ _ _ _=>rfl),pX:=191,pY:=_,ui:=wU X G (c:=190) (m:=H.w3) (by kernel_rfl) (D4 λ_ _ _ _ _ _ _ _=>rfl),kI:=198,kJ:=_,om:=wU X G (c:=197) (m:=H.w3) (by kernel_rfl) (Lp λ_ _ _ _ _ _ _ _ _=>rfl),dO:=205,dP:=_,dQ:=wU X G (c:=204) (m:=H.w3) (by kernel_rfl) (Lp λ_ _ _ _ _ _ _ _ _=>rfl),sE:=212,sF:=_,nH:=wU X G (c:=211) (m:=H.w3) (by kernel_rfl) (Lp λ_ _ _ _ _ _ _ _ _=>rfl),jt:=219,ju:=_,jv:=wU X G (c:=218) (m:=H.w3) (by kernel_rfl) (Lp λ_ _ _ _ _ _ _ _ _=>rfl),mE:=296,mG:=_,pZ:=wU X G (c:=295) (m:=H.w5) (by kernel_rfl) (Lp λ_ _ _ _ _ _ _ _ _=>rfl),jQ:=303,jR:=_,jS:=wU X G (c:=302) (m:=H.w5) (by kernel_rfl) (D4 λ_ _ _ _ _ _ _ _=>rfl),jT:=310,jU:=_,mH:=wU X G (c:=309) (m:=H.w5) (by kernel_rfl) (Lp λ_ _ _ _ _ _ _ _ _=>rfl),jf:=317,jg:=_,lj:=wU X G (c:=316) (m:=H.w5) (by kernel_rfl) (D4 λ_ _ _ _ _ _ _ _=>rfl),lT:=324,lU:=_,p4:=wU X G (c:=323) (m:=H.w5) (by kernel_rfl) (D4 λ_ _ _ _ _ _ _ _=>rfl),lV:=331,lW:=_,p5:=wU X G (c:=330) (m:=H.w5) (by kernel_rfl) (Lp λ_ _ _ _ _ _ _ _ _=>rfl),nI:=338,nJ:=_,rg:=wU X G (c:=337) (m:=H.w5) (by kernel_rfl) (D4 λ_ _ _ _ _ _ _ _=>rfl),p6:=345,p7:=_,uj:=wU X G (c:=344) (m:=H.w5) (by kernel_rfl) (Lp λ_ _ _ _ _ _ _ _ _=>rfl),gR:=352,gS:=_,i7:=wU X G (c:=351) (m:=H.w5) (by kernel_rfl) (WI λ_ _ _ _ _ _ _=>rfl),gb:=359,gf:=_,gj:=wU X G (c:=358) (m:=H.w5) (by kernel_rfl) (D4 λ_ _ _ _ _ _ _ _=>rfl),fJ:=366,fK:=_,eQ:=wU X G (c:=365) (m:=H.w5) (by kernel_rfl) (Lp λ_ _ _ _ _ _ _ _ _=>rfl),jV:=373,jW:=_,mJ:=wU X G (c:=372) (m:=H.w5) (by kernel_rfl) (bd4 λ_ _ _ _ _ _ _ _ _ _=>rfl),p8:=378,p9:=_,uk:=wU X G (c:=377) (m:=H.w5) (by kernel_rfl) (Lp λ_ _ _ _ _ _ _ _ _=>rfl),kK:=385,kL:=_,ou:=wU X G (c:=384) (m:=H.w5) (by kernel_rfl) (D4 λ_ _ _ _ _ _ _ _=>rfl),iG:=392,iH:=_,ko:=wU X G (c:=391) (m:=H.w5) (by kernel_rfl) (D4 λ_ _ _ _ _ _ _ _=>rfl),K9:=399,GX:=_,Qf:=wU X G (c:=398) (m:=H.w5) (by kernel_rfl) (WI λ_ _ _ _ _ _ _=>rfl),jX:=j6 X G (by kernel_rfl),oV:=j6 X G (by kernel_rfl),E5:=j6 X G (by kernel_rfl),rh:=j6 X G (by kernel_rfl),AE:=j6 X G (by kernel_rfl),aH:=j6 X G (by kernel_rfl),fL:=j6 X G (by kernel_rfl),ri:=j6 X G (by kernel_rfl),Qg:=j6 X G (by kernel_rfl),vB:=j6 X G (by kernel_rfl),xx:=j6 X G (by kernel_rfl),nK:=j6 X G (by kernel_rfl),nM:=360,nN:=fZ X G (by kernel_rfl),qv:=362,qw:=fZ X G (by kernel_rfl),qb:=_,oy:=fZ X G Ae,wB:=_,um:=fZ X G Fj,vC:=_,z8:=fZ X G tP,zr:=_,wC:=fZ X G Ih,vD:=_,oW:=fZ X G jw,B6:=_,zt:=fZ X G Lq,uo:=_,rm:=fZ X G DN,vE:=_,oX:=fZ X G jx,wD:=_,uq:=fZ X G Fl,zu:=_,wF:=fZ X G Ii,wG:=⟨fZ X G jw,jw,(nZ o6).2⟩,wH:=⟨fZ X G jx,jx,(nZ o7).2⟩,mK:=⟨⟨_,fZ X G tP,(by intro n hn;simp only [bR,jM,or_false]at hn;rcases hn with rfl|rfl<;>first|exact⟨_,jw,rD⟩|exact⟨_,jx,rE⟩)⟩⟩,oY:=⟨Ij,(by intro n hn;simp only [bR,jM,or_false]at hn;rcases hn with rfl|rfl<;>first|exact⟨_,jw,(nZ o6).1,wV⟩|exact⟨_,jx,(nZ o7).1,wW⟩)⟩,oZ:=⟨Ik,(by intro n hn;simp only [bR,jM,or_false]at hn;rcases hn with rfl|rfl<;>first|exact⟨_,jw,(nZ o6).1,wX⟩|exact⟨_,jx,(nZ o7).1,wY⟩)⟩,i8:=⟨Af,(by intro n hn;simp only [bR,jM,or_false]at hn;rcases hn with rfl|rfl<;>first|exact⟨_,jw,(nZ o6).1,rF⟩|exact⟨_,jx,(nZ o7).1,rG⟩)⟩,bI:=⟨Zd,(by intro n hn;simp only [bR,jM,or_false]at hn;rcases hn with rfl|rfl<;>first|exact⟨_,jw,(nZ o6).1,DP⟩|exact⟨_,jx,(nZ o7).1,DQ⟩)⟩}
 refine⟨_,λs v=>(?_:rN s t.GX ⟨[v],[]⟩ [("_law_script",v)]),λbase _ _=>?_⟩
 ·exact .of_eq rfl
 have gU:= @zH l.prog w (Kw w) mg base t;have dw:= @z9 l.prog w (Kw w) mg base t;have kr:= @DH l.prog w (Kw w) mg base t;have j4:= @xQ l.prog w (Kw w) mg base t;have mR:= @xR l.prog w (Kw w) mg base t;have ly:= @wL l.prog w (Kw w) mg base t;have rC:= @Cg l.prog w (Kw w) mg base t;have uz:= @DI l.prog w (Kw w) mg base t;have eM:= @zI l.prog w (Kw w) mg base t;have uC:= @DJ l.prog w (Kw w) mg base t gU;have TQ:Ok l.prog w (Kw w) mg base 2 t.l6 t.l7 ["n","word"] HV:=CY.calm uC;have wN:= @Fg l.prog w (Kw w) mg base t dw;have zL:= @Ie l.prog w (Kw w) mg base t gU dw;have wO:= @Fi l.prog w (Kw w) mg base t dw;have uA:= @DK l.prog w (Kw w) mg base t dw;have qj:= @Aa l.prog w (Kw w) mg base t ly;have lz:= @wM l.prog w (Kw w) mg base t eM;have uB:= @DM l.prog w (Kw w) mg base t uz;have oB:= @zJ l.prog w (Kw w) mg base t rC;have oA:= @zK l.prog w (Kw w) mg base t wN zL wO uA;have qk:= @Ab l.prog w (Kw w) mg base t kr qj;have lA:= @wQ l.prog w (Kw w) mg base t eM lz;have cU:= @sS l.prog w (Kw w) mg base t oA;have Ha:Ok l.prog w (Kw w) mg base 4 t.dO t.dP ["n","word","move"] vp:=CY.calm cU;have lY:= @Ac l.prog w (Kw w) mg base t eM lA;have mU:= @xS l.prog w (Kw w) mg base t qk;have Lr:= @Ig l.prog w (Kw w) mg base t cU;have Hb:Lw l.prog w (Kw w) mg base 5 t.sE t.sF ["n","word","move"] nE:=HF.calm Lr;have Ci:= @Ad l.prog w (Kw w) mg base t cU;have Qp:Ok l.prog w (Kw w) mg base 5 t.jt t.ju ["n","word","move"] Dj:=CY.calm Ci;have TC:Qi (Kw w) mg 285:=⟨⟨⟨ypg,yhd,ypo,ysa⟩,yC⟩,yn0,yn1,yn2,t.fL,t.ri⟩
 have⟨YF0,V1⟩:=TN (Kw w) (C:=285) (x:="__init__") (q:="Loom.__init__") (st:=VI) (f:=233) (c:=232) (m:=H.w4) (by kernel_rfl);have YB0:=YF0.binds (ps:=["self","n"]) (D4 λ_ _ _ _ _ _ _ _=>rfl);have⟨YF1,Ze⟩:=TN (Kw w) (C:=285) (x:="hang") (q:="Loom.hang") (st:=VJ) (f:=240) (c:=239) (m:=H.w4) (by kernel_rfl);have YB1:=YF1.binds (ps:=["self","word"]) (D4 λ_ _ _ _ _ _ _ _=>rfl);have YM1:=Ze;have⟨YF2,Zf⟩:=TN (Kw w) (C:=285) (x:="drop") (q:="Loom.drop") (st:=VL) (f:=247) (c:=246) (m:=H.w4) (by kernel_rfl);have YB2:=YF2.binds (ps:=["self","many"]) (D4 λ_ _ _ _ _ _ _ _=>rfl);have YM2:=Zf;have⟨YF3,Zg⟩:=TN (Kw w) (C:=285) (x:="go") (q:="Loom.go") (st:=VM) (f:=254) (c:=253) (m:=H.w4) (by kernel_rfl);have YB3:=YF3.binds (ps:=["self","move"]) (D4 λ_ _ _ _ _ _ _ _=>rfl);have YM3:=Zg;have⟨YF4,Zh⟩:=TN (Kw w) (C:=285) (x:="undo") (q:="Loom.undo") (st:=VN) (f:=261) (c:=260) (m:=H.w4) (by kernel_rfl);have YB4:=YF4.binds (ps:=["self"]) (WI λ_ _ _ _ _ _ _=>rfl);have YM4:=Zh;have⟨YF5,Zi⟩:=TN (Kw w) (C:=285) (x:="now") (q:="Loom.now") (st:=VO) (f:=268) (c:=267) (m:=H.w4) (by kernel_rfl);have YB5:=YF5.binds (ps:=["self"]) (WI λ_ _ _ _ _ _ _=>rfl);have YM5:=Zi;let tl:TL (Kw w) mg:={C:=285,T:=TC,mc:=fZ X G yC,fi:=_,di:=_,MK:=⟨ymk,V1.1,V1.2,ykc⟩,Bi:=YB0,fh:=_,dh:=_,Mh:=YM1,Bh:=YB1,fd:=_,dd:=_,Md:=YM2,Bd:=YB2,fg:=_,dg:=_,Mg:=YM3,Bg:=YB3,fu:=_,du:=_,Mu:=YM4,Bu:=YB4,fn:=_,dn:=_,Mn:=YM5,Bn:=YB5}
 have GI:=OE (P:=l.prog) (w:=w) (base:=base) YF0 TC t uC;have lX:=OC (P:=l.prog) (w:=w) (base:=base) YF1 TC t uC;have sH:=OG (P:=l.prog) (w:=w) (base:=base) YF2 TC t;have GB:=VF (P:=l.prog) (w:=w) (base:=base) t cU;have AJ:=VG (P:=l.prog) (w:=w) (base:=base) YF3 TC t GB Hb;have nS:=OH (P:=l.prog) (w:=w) (base:=base) YF4 TC t Hb;have GN:=S7 (P:=l.prog) (w:=w) (base:=base) YF5 TC;have mT:= @xT l.prog w (Kw w) mg base t tl GI sH AJ lX;have dU:= @wR l.prog w (Kw w) mg base t tl GI sH AJ lX;have j5:= @vL l.prog w (Kw w) mg base t tl dU lX GN nS;have V2:= @Te l.prog w (Kw w) mg base t tl kr j4 mR lY mT mU uB oB GI j5 dU GN nS;exact V2
def walk{l:Gg}{q:aO}{loose:List Str}{XP:(Str->Option ah)->au->Prop}{YP:aD->au->Prop}{d:DefRec}{K:jI->aj}(hn:l.most=aa 63)(Up:d.params.defaults=[])
  (hY:∀(w:aD)(h:au),YP w h->(K w.params).In h)
  (F:∀(w:aD)(mg:Str->Option ah)(fa:ae)(h:au),(K w.params).In h->h.Ns bU mg->mg d.name=aa (.ref fa)->
   ∃fd:aL,(∀(s:ai)(u:ah),rN s fd ⟨[u],[]⟩ [("_law_script",u)])/\∀base:au,(K w.params).In base->base.Ns bU mg->fz l.prog w (K w.params) mg base lL 9 fa fd ["_law_script"] (Gj (K w.params) Jo zE)):
  MH q loose XP YP l.row.toRowW d [] (λf vs=>PySem.call f vs):=
 L2.MG (n:=63) (k:=9) (x:="_law_script") (CX:=λ_=>lL) (sp:=λw=>Gj (K w.params) Jo zE) hn (by decide) Up ⟨rfl,by decide,by decide⟩ hY F (λw H a ns hl _ hS=>Td ns hl hS) λ_ _ _ _ _ z=>z
end DL.oh
open PySem PySem.W PyProof.Rows
set_option maxRecDepth 100000 in
set_option maxHeartbeats 0 in
theorem PySem.Challenge.cw_braidcomb_k82_refused_changes_nothing_holds : PySem.Challenge.rw_braidcomb_k82_refused_changes_nothing.Holds := by
 w_on;refine holds_law (l:=PySem.Challenge.rw_braidcomb_k82_refused_changes_nothing) (by kernel_rfl) λsaid=>?_;refine holds_open (q:=DL.oh.H.q) (Xt:=DL.oh.H.Xt) (XP:=XL DL.oh.H.q []) (Yf:=DL.oh.H.hk.obs) (Ya:=DL.oh.H.hk.val) (YP:=DL.oh.H.hk.says) DL.oh.H.left DL.oh.H.hk.of DL.oh.H.hk.keeps (λs e=>xl_of s (OU.mp e).1) XL.keeps (by rfl) (by rfl) (by rfl) (λs e=>recFacts_of (OU.mp e).2) (by rfl) said (by decide +kernel) ⟨rfl,rfl,rfl,rfl,rfl,by decide +kernel⟩ ?hw ?hc
 case hw=>w_witness2
 refine DL.oh.walk (l:=PySem.Challenge.rw_braidcomb_k82_refused_changes_nothing) rfl rfl (λw h Y=>kIn_of Y) ?F
 case F=>
  intro w mg fa h KX G hmg;have hh:=DL.oh.all_mk (l:=PySem.Challenge.rw_braidcomb_k82_refused_changes_nothing) ((DL.oh.Qo w).symm▸KX) G hmg;rw[DL.oh.Qo w]at hh;exact hh
