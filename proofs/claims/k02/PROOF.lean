import PyProof.Rows.All
import Wide.All
import OpenK.AllK
import Wide.FinOn
import Lean
import PyProof.EqAt
import PyProof.EqKinds
import PyProof.TupleCall
import KE.KRevIter
import KE.KSortKey
import PyProof.FString
import PyProof.StrCalls2
import PySem.Challenge.RW_ringfell_k02_webs_refused
open PySem.W renaming Frag → sI,nsIn → tX,mg_none_of → uf,mg_of → um,kia_one → uK,looks_findIn → vz,callWith_K → vI,hideAll_get → vR,kitx_list → wm,kitx_dict → wo,cellsFrom_some → xQ,kat_nil → x6,looks_subIn → yq,kitx_float → yr,kitx_tuple → yt,kitx_none → yE,kitx_bool → yF,tail_of_in → yL,kitx_int → yP,kitx_str → yQ
open PySem renaming Value → sJ,Shared → sL,sizeLine → sM,wpAny_bind → sP,Program → tj,mainGlobals → tF,model → tN,wpAny → tP,wpAny_pure → tQ,starEach → tU,wpAny_loadPart_at → t9,World → ud,Around → ue,FuncData → uh,bootBuiltins → uv,wpAny_mono → uw,wpAny_truthy_bool → uM,wpAny_Call_Name_kw → uQ,compareOp → uW,mem_of_lookup → vg,codeAny_call_builtin → vt,wpAny_holding → vC,wpAny_call_entry → vF,backTo → vV,wpAny_execs_nil → we,wpAny_passesOwn → wg,wpAny_callSpecial?_slot → wj,wpAny_rule → wu,codeAny_mono → wz,wpAny_standAt → wI,wpAny_newList → wK,wpAny_letOwnedTupleGo_enum → xb,wpAny_newObj_type → xE,wpAny_field → xJ,wpAny_execs_cons → xP,richCompare_meets_room → xV,wpAny_isTrue_Compare1 → x8,codeAny_builtin → yc,wpAny_call → yd,call_meets → ye,wpAny_setField → yk,wpAny_pyIter_tuple → yC,wpAny_attempt → yD,wpAny_pyIter_slot → yK,codeAny → yM,seqIndex_neg → yO,sizeLine_eq → y8,seqIndex_of → y9,holding → zc,wpAny_Name → zv,typeIs_str → zw,typeIs_int → zx,numAt_eq → zB,rawInt → zD
open PySem.Heap renaming get?_push_of_some → sN,lt_size → sV,get?_push_size → tR,get?_update_ne → vi,get?_update_self → vo,get?_none_of_le → vW,get?_update_other → wk,get?_push_at → xB,size_push → yj
open List renaming size_toArray → sO,getElem?_eq_some_iff → sQ,length_append → tw,mem_of_getElem? → tD,getElem?_eq_getElem → tE,mem_cons → tG,replicate → tI,mem_append → tO,mem_cons_of_mem → tS,length_cons → tY,mem_append_right → t4,length_map → t7,append_assoc → t8,mem_iff_getElem? → uc,map_cons → ug,extract_eq_take_drop → uj,drop_sublist → uq,mem_cons_self → ur,append_nil → uA,take_sublist → uB,pairwise_append → uD,filterMap_cons → uF,length_take → uH,getD_eq_getElem?_getD → uI,length_drop → uL,pairwise_singleton → uO,not_mem_nil → uT,take_of_length_le → uV,length_replicate → u0,getElem?_take → u6,mem_of_mem_drop → u9,mem_of_mem_take → va,flatten_cons → vc,replicate_succ → vh,length_pos_iff → vj,all_eq_true → vn,take_append_drop → vp,pairwise_iff_getElem → vq,take_append_of_le_length → vE,getElem?_set_self → vG,length_nil → vK,getElem?_toArray → vL,perm_append_comm → vO,getElem?_map → vS,getElem?_append_right → vU,getElem?_append_left → vX,lookup_cons → vZ,reverse_append → v3,mem_filterMap → v9,nil_append → wb,getElem?_drop → wc,pairwise_map → wq,reverse_perm → wt,drop_append_of_le_length → wA,getElem?_set_ne → wD,range → wL,nodup_cons → wM,length_zip → wR,map_append → wV,take_replicate → wW,mem_map → xj,mem_replicate → xk,mem_range → xn,getElem?_zip_eq_some → xp,getElem?_eq_none_iff → xq,take_zero → xt,drop_left → xu,take_add_one → xA,getElem?_replicate → xF,getElem_mem → xO,drop_eq_nil_of_le → xT,of_mem_zip → xX,length_singleton → xY,mem_append_left → yg,reverse_reverse → yh,length_reverse → ym,pairwise_cons → yu,zip_cons_cons → yw,mem_singleton → yB,map_nil → yN,mem_filter → yW,foldl_cons → yX,drop_drop → zh,drop_zero → zj,any_cons → zA
open PyProof.Rows renaming wpS_bind → sR,Keyed → sW,wpS_pure → sZ,arrOf → tf,pendingOf → tJ,SortSt → tK,wpS_forRange → uu,wpS_mono → uZ,wpS_modify → ve,callWith_type1 → vJ,IntsAre → v5,reverseSlice'_eq → wC,listUpdate_at → wJ,KeyOrd → wX,wpS_get → xv,wpS_lift → xK,subscriptTail_builtinR → xU,listItems_at → x9,get?_update_seq → yb,getElem?_mirror_all → yo,seqEpoch_at → yp,size_push' → zy
open Nat renaming le_refl → sS,lt_of_lt_of_le → sT,le_trans → tM,ne_of_lt → tW,lt_irrefl → ux,zero_le → uz,add_le_add_left → uG,le_sub_one_of_lt → vb,add_sub_cancel_left → vA,le_add_right → vD,eq_zero_of_not_pos → vH,le_succ_of_le → vT,sub_one_lt_of_lt → wG,le_succ → wN,min_eq_left → wQ,le_of_lt → xf,lt_of_le_of_lt → xg,zero_add → xi,lt_succ_of_lt → xx,lt_of_succ_lt → xy,ne_of_gt → xW,le_antisymm → x3,le_of_sub_eq_zero → x4,min_self → x5,lt_of_le_of_ne → yv,sub_pos_of_lt → yG,le_of_succ_le → yH,lt_succ_self → yS,succ_le_succ → yT,not_lt_zero → y7,add_assoc → zz
open Array renaming length_toList → sU,getElem?_toList → tq,toList_append → tT,toList_extract → uJ,toList_reverse → uS,getElem?_eq_some_iff → uU,toList_push → vd,size_append → vv,size_push → vP,toList_setIfInBounds → w6,perm_iff_toList_perm → w9,append_assoc → xc,toList_inj → xN,toList_map → yU,size_map → zk
open PySem.Value renaming ref → tH,none → vx,int → vY,type → v7
open Bool renaming false_ne_true → tL,and_eq_true → uo,false_eq_true → uN,eq_iff_iff → wa,and_false → wx,false_and → xo,not_true → xH,eq_false_iff → yI,not_eq_true' → yJ
open Option.some renaming inj → tV
open PyProof.Rows.KeyOrd renaming kle_trans → tZ,kle_of_klt → uC,kle_refl → uP,kle_antisymm → yn
open PySem.F renaming excBase_ValueError → uE,store_ValueError → u7,slot_tuple_iterator_next → vm,plainAttrs_list → vB,slot_enumerate_iter → vM,slot_enumerate_next → vN,attrBase_ValueError → vQ,typeOf_object_class → wy,args_tuple_iterator_next_1 → wH,entry_tuple_iterator_next → wO,slot_list_insert → xC,type_list_insert → xD,args_enumerate_iter_1 → xG,slot_list_count → xI,entry_enumerate_iter → xS,mro_reversed → yi,slot_gs_get → yy,args_list_eq_2 → yV,slot_int_rmul → yY,entry_list_eq → y3,entry_bexc_ga → y6
open List.Perm renaming append_left → u5,append_right → vk,refl → xr
open Ne renaming symm → vf
open PySem.PassesOwn renaming never → vw
open PySem.Obj renaming mapSeq → vy,data_mapFields → xh
open PySem.Paired renaming length → v8
open PySem.Code renaming quiet_builtin → wd
open Iff renaming rfl → wB
open PySem.Calls renaming evalArgs_plain → wF,Name_function_global → wZ,callWith_builtin → xR
open Int renaming emod_nonneg → wU,fdiv_eq_ediv_of_nonneg → w4,fmod_eq_emod_of_nonneg → w5,toNat_natCast → xw,emod_lt_of_pos → yA,mul_nonneg → zo
open PySem.Builtin.List renaming listExtendWith → wY
open PySem.AutoListH renaming list_insert_list_int_val_1 → xM
open Option renaming map_some → xZ,getD_none → yR
open PySem.SeqAt renaming EqAt → yf
open PySem.Heap.SameBut renaming update → yl
open PySem.SeqAt.EqAt renaming int_int → yx,same → yZ
open PySem.SeqAt.RcNeAt renaming lists → yz
open PySem.EqMixed renaming eq_bool_str → zd,eq_str_bool → ze,ne_bool_str → zf,ne_str_bool → zg,eq_int_str → zq,eq_str_int → zr,ne_int_str → zt,ne_str_int → zu
open PySem.W.Looks renaming of_pure → zC
open PySem.W.KatTups renaming cons → zE
open PySem.Heap.IsSliceOf renaming new → zF
set_option Elab.async false
set_option linter.all false
set_option maxRecDepth 100000
namespace L2
open PySem PySem.Spec PyProof.Rows
abbrev Key:=Sum Int Str
def gg:Key->sJ->Bool
 | .inl k,v=>Value.isInt k v
 | .inr x,v=>Value.isStrOf x v
def keyH (w:ud):Key->Int
 | .inl k=>hashInt k
 | .inr x=>hashStr w x
theorem aV:∀{k:Key} {v:sJ},gg k v=true->(∃i t,k=Sum.inl i/\v=vY i t)\/(∃x t,k=Sum.inr x/\v=Value.str x t)
 | .inl i,v,h=>by
  obtain ⟨t,e⟩:=Value.isInt_shape (k:=i) (v:=v) h
  exact .inl ⟨i,t,rfl,e⟩
 | .inr x,v,h=>by
  obtain ⟨t,e⟩:=Value.isStrOf_shape (x:=x) (v:=v) h
  exact .inr ⟨x,t,rfl,e⟩
theorem kM (i:Int)(t:Tok):gg (.inl i) (.int i t)=true:=by simp[gg,Value.isInt]
theorem kN (x:Str)(t:Tok):gg (.inr x) (.str x t)=true:=by simp[gg,Value.isStrOf]
theorem pL (a b:Int):decide ((Sum.inl a:Key)=Sum.inl b)=(a == b):=by
 by_cases e:a=b
 ·subst e;simp
 ·have h:¬ (Sum.inl a:Key)=Sum.inl b:=λq=>e (Sum.inl.inj q)
  rw[decide_eq_false h]
  exact (beq_eq_false_iff_ne.mpr e).symm
theorem pM (a b:Str):decide ((Sum.inr a:Key)=Sum.inr b)=decide (a=b):=by
 by_cases e:a=b
 ·subst e;simp
 ·have h:¬ (Sum.inr a:Key)=Sum.inr b:=λq=>e (Sum.inr.inj q)
  rw[decide_eq_false h,decide_eq_false e]
theorem pN (a:Int)(b:Str):decide ((Sum.inl a:Key)=Sum.inr b)=false:=decide_eq_false (λq=>nomatch q)
theorem pO (a:Str)(b:Int):decide ((Sum.inr a:Key)=Sum.inl b)=false:=decide_eq_false (λq=>nomatch q)
def bN (prog:tj)(w:ud):PySem.KeyKind prog w Key where
 is:=gg
 hash:=keyH w
 inj:=λv a b ha hb=>by
  rcases aV ha with ⟨i,t,rfl,rfl⟩ | ⟨x,t,rfl,rfl⟩
  ·rcases aV hb with ⟨j,u,rfl,e⟩ | ⟨y,u,rfl,e⟩
   ·injection e with e1 _;rw[e1]
   ·exact nomatch e
  ·rcases aV hb with ⟨j,u,rfl,e⟩ | ⟨y,u,rfl,e⟩
   ·exact nomatch e
   ·injection e with e1 _;rw[e1]
 byValue:=λk v h=>by
  rcases aV h with ⟨i,t,rfl,rfl⟩ | ⟨x,t,rfl,rfl⟩ <;> rfl
 pyHash:=λhv h=>by
  rcases aV hv with ⟨i,t,rfl,rfl⟩ | ⟨x,t,rfl,rfl⟩
  ·exact wpAny_pyHash_int h
  ·exact wpAny_pyHash_str h
 eqBool:=λhu hv h=>by
  rcases aV hu with ⟨i,t,rfl,rfl⟩ | ⟨x,t,rfl,rfl⟩
  ·rcases aV hv with ⟨j,u,rfl,rfl⟩ | ⟨y,u,rfl,rfl⟩
   ·rw[pL] at h;exact wpAny_eqBool_int h
   ·rw[pN] at h;exact SeqAt.EqAt.int_str i t y u _ _ _ _ h
  ·rcases aV hv with ⟨j,u,rfl,rfl⟩ | ⟨y,u,rfl,rfl⟩
   ·rw[pO] at h;exact SeqAt.EqAt.str_int x t j u _ _ _ _ h
   ·rw[pM] at h;exact wpAny_eqBool_str h
 «strs» := λk x t v h=>by
  rcases aV h with ⟨i,u,rfl,e⟩ | ⟨y,u,rfl,e⟩
  ·exact nomatch e
  ·injection e with e1 _
   subst e1
   cases v <;> rfl
theorem iI (prog:tj)(w:ud)(i:Int)(t:Tok):(bN prog w).is (.inl i) (.int i t)=true:=kM i t
theorem iJ (prog:tj)(w:ud)(x:Str)(t:Tok):(bN prog w).is (.inr x) (.str x t)=true:=kN x t
open PySem PySem.Spec PyProof.Rows
inductive V where
 | non | bl (b:Bool) | int (i:Int) | str (x:Str) | byt (b:Array UInt8) | flt (b:UInt64) | ref (a:Addr) | ty (n:String)
 deriving DecidableEq
def RelV:V->sJ->Prop
 | .non,u=>u=vx
 | .bl b,u=>u=Value.bool b
 | .int i,u=>∃t,u=vY i t
 | .str x,u=>∃t,u=Value.str x t
 | .byt b,u=>∃t,u=Value.bytes b t
 | .flt b,u=>∃t,u=Value.float b t
 | .ref a,u=>u=tH a
 | .ty n,u=>u=v7 n
abbrev Vals:List V->List sJ->Prop:=Paired RelV
theorem Vals.length {xs:List V}{us:List sJ}(r:Vals xs us):xs.length=us.length:=v8 r
theorem Vals.get:∀{xs:List V} {us:List sJ} {i:Nat} {x:V},Vals xs us->xs[i]? = some x->∃u,us[i]? = some u/\RelV x u
 | _,_,_,_,.nil,e=>by simp at e
 | _,_,0,_,.cons r _,e=>by simp at e;subst e;exact ⟨_,rfl,r⟩
 | _,_,i+1,x,.cons _ t,e=>by
  obtain ⟨u,h1,h2⟩:=Vals.get (i:=i) (x:=x) t (by simpa using e)
  exact ⟨u,by simpa using h1,h2⟩
theorem Vals.set {x:V}{u:sJ}(r:RelV x u):∀{xs:List V} {us:List sJ} (i:Nat),Vals xs us->Vals (xs.set i x) (us.set i u)
 | _,_,_,.nil =>.nil
 | _,_,0,.cons _ t =>.cons r t
 | _,_,i+1,.cons q t =>.cons q (Vals.set r i t)
theorem Vals.append:∀{xs ys:List V} {us ws:List sJ},Vals xs us->Vals ys ws->Vals (xs++ys) (us++ws)
 | _,_,_,_,.nil,s=>s
 | _,_,_,_,.cons r t,s =>.cons r (Vals.append t s)
theorem Vals.take:∀{xs:List V} {us:List sJ} (n:Nat),Vals xs us->Vals (xs.take n) (us.take n)
 | _,_,0,_ =>.nil
 | _,_,_+1,.nil =>.nil
 | _,_,n+1,.cons r t =>.cons r (Vals.take n t)
theorem Vals.drop:∀{xs:List V} {us:List sJ} (n:Nat),Vals xs us->Vals (xs.drop n) (us.drop n)
 | _,_,0,r=>r
 | _,_,_+1,.nil =>.nil
 | _,_,n+1,.cons _ t=>Vals.drop n t
def iK:Option V->Option sJ->Prop
 | some v,some u=>RelV v u
 | none,none=>True
 | _,_=>False
def KV {κ:Type}:List (κ×V)->List (κ×sJ)->Prop:=Paired λ(p:κ×V) (q:κ×sJ)=>p.1=q.1/\RelV p.2 q.2
def kV:Key->V
 | .inl i =>.int i
 | .inr x =>.str x
inductive HO where
  | lst (xs:List V)
  | tup (xs:List V)
  | dK (kvs:List (Key×V)) | dT (kvs:List (List Key×V))
  | set (S:Int->Bool) (n:Nat)
  | ins (C dx:Addr) (fs:List (Str×V))
  | own (x:Addr)
  | xd (fs:List (Str×V))
  | met (f x:Addr)
  | rng (lo hi:Int)
  | frz (o:Obj) (u:HO)
  | tbl (ps:Array sJ)
  | ext (φ:Heap->Prop)
abbrev Hp:=Addr->Option HO
def upd (H:Hp)(a:Addr)(o:HO):Hp:=λb=>if b=a then some o else H b
theorem ae {H:Hp}{a:Addr}{o:HO}:upd H a o a=some o:=by unfold upd;rw[if_pos rfl]
theorem ai {H:Hp}{a b:Addr}{o:HO}(h:b≠a):upd H a o b=H b:=by unfold upd;rw[if_neg h]
theorem lS {H:Hp}{a b:Addr}{o u:HO}(h:H a=some o)(h':H b=some u)(d:o≠u):a≠b:=by
 intro e;subst e;rw[h] at h';exact d (tV h')
theorem aj {H:Hp}{a b:Addr}{o:HO}(h:H a=some o)(h':H b=none):a≠b:=by
 intro e;subst e;rw[h] at h';cases h'
def dm (h:Heap)(a:Addr)(items:Array sJ):Prop:=∃o,h.get? a=some o/\(o.cls = .type "tuple" /\ o.dict=none)/\∃n,o.data = .seq items n
theorem dm.tup {h:Heap}{a:Addr}{items:Array sJ}(x:dm h a items):IsTup h a items:=let ⟨o,e,c,n,d⟩:=x;⟨o,e,c.1,n,d⟩
theorem dm.new (h:Heap)(items:Array sJ):dm (h.push { cls :=.type "tuple",data :=.seq items }) h.objs.size items:=⟨_,tR _ rfl,⟨rfl,rfl⟩,_,rfl⟩
section
variable  (P:tj)(w:ud)
def aQ (H:Hp)(h:Heap)(a:Addr):HO->Prop
 | .lst xs=>xs.length<=sM/\∃(its:List sJ) (n:Nat),Vals xs its/\h.get? a=some { cls :=.type "list",data :=.seq its.toArray n }
 | .tup xs=>xs.length<=sM/\∃its:List sJ,Vals xs its/\dm h a its.toArray
 | .dK kvs=>kvs.length<=sM/\(a == sysModules)=false/\∃vs,KV kvs vs/\h.DictOf (bN P w) a vs
 | .dT kvs=>kvs.length<=sM/\(a == sysModules)=false/\∃xs:List (List Key×Addr×sJ),
   Paired (λ(p:List Key×V) (q:List Key×Addr×sJ)=>p.1=q.1/\H q.2.1=some (.tup (p.1.map kV))/\RelV p.2 q.2.2) kvs xs ∧
   ∃o es ep,h.get? a=some o/\o.ExactDict/\o.data = .dict es ep/\es.toList=xs.map (entryOfKey (tupleKind (bN P w)))/\(xs.map (·.1)).Nodup
 | .set S n=>h.SetOf (intKind P w) a S n
 | .ins C dx fs=>H dx=some (.own a)/\fs.length<=1000/\dx≠a/\h.get? a=some (PySem.W.instObj C dx) ∧
   ∃mA,h.Ns1 dx mA/\(∀f,iK (fs.lookup f) (mA f))/\PySem.Within mA (fs.map (·.1))
 | .own _=>∃o,h.get? a=some o
 | .xd fs=>∃mA,h.Ns1 a mA/\∀f,iK (fs.lookup f) (mA f)
 | .rng lo hi=>∃t u v,h.get? a=some { cls :=.type "range",data :=.fields #[.int lo t,.int hi u,.int 1 v] }
 | .frz o u=>h.get? a=some o/\aQ H h a u
 | .tbl ps=>h.get? a=some { cls :=.none,data :=.fields ps }
 | .met f x=>h.get? a=some (PySem.W.methodObj (.ref f) (.ref x))
 | .ext φ=>φ h/\(∃o,h.get? a=some o)/\∀h1 h2:Heap, φ h1->(∀o,h1.get? a=some o->h2.get? a=some o) -> φ h2
def HOk (H:Hp)(h:Heap):Prop:=∀a o,H a=some o->aQ P w H h a o
end
section
variable  {P:tj}{w:ud}{H H':Hp}{h h':Heap}{a:Addr}{o:HO}
theorem aQ.lt (x:aQ P w H h a o):a<h.objs.size:=by
 cases o with
 | lst xs=>obtain ⟨_,_,_,_,e⟩:=x;exact sV e
 | tup xs=>obtain ⟨_,_,_,p⟩:=x;exact (dm.tup p).lt
 | dK kvs=>obtain ⟨_,_,_,_,o,_,_,e,_⟩:=x;exact sV e
 | dT kvs=>obtain ⟨_,_,_,_,o,_,_,e,_⟩:=x;exact sV e
 | set S n=>obtain ⟨o,_,_,_,e,_⟩:=x;exact sV e
 | ins C dx fs=>obtain ⟨_,_,_,e,_⟩:=x;exact sV e
 | own y=>obtain ⟨_,e⟩:=x;exact sV e
 | xd fs=>obtain ⟨_,⟨_,_,_,e,_⟩,_⟩:=x;exact sV e
 | rng lo hi=>obtain ⟨_,_,_,e⟩:=x;exact sV e
 | frz ob u=>obtain ⟨e,_⟩:=x;exact sV e
 | tbl ps=>exact sV (show h.get? a=some _ from x)
 | met f y=>exact sV (show h.get? a=some _ from x)
 | ext φ=>obtain ⟨_,⟨_,e⟩,_⟩:=x;exact sV e
theorem Paired.lT {α β:Type}{F G:α -> β -> Prop}:∀{l₁:List α} {l₂:List β},Paired F l₁ l₂->(∀a b,F a b->G a b)->Paired G l₁ l₂
 | _,_,.nil,_ =>.nil
 | _,_,.cons r t,f =>.cons (f _ _ r) (Paired.lT t f)
theorem aQ.bT (x:aQ P w H h a o)(k:∀b u,(b=a\/H b=some (.own a))->h.get? b=some u->h'.get? b=some u)
  (ho:∀b,H b=some (.own a)->H' b=some (.own a)) (ht:∀b xs,H b=some (.tup xs)->H' b=some (.tup xs)):aQ P w H' h' a o:=by
 induction o with
 | lst xs=>obtain ⟨z,its,n,r,e⟩:=x;exact ⟨z,its,n,r,k _ _ (.inl rfl) e⟩
 | tup xs=>obtain ⟨z,its,r,ob,e,c⟩:=x;exact ⟨z,its,r,ob,k _ _ (.inl rfl) e,c⟩
 | dK kvs=>obtain ⟨z,y,vs,r,ob,es,ep,e,c⟩:=x;exact ⟨z,y,vs,r,ob,es,ep,k _ _ (.inl rfl) e,c⟩
 | dT kvs =>
  obtain ⟨z,y,xs,r,ob,es,ep,e,c⟩:=x
  exact ⟨z,y,xs,Paired.lT r λp q z=>⟨z.1,ht _ _ z.2.1,z.2.2⟩,ob,es,ep,k _ _ (.inl rfl) e,c⟩
 | set S n=>obtain ⟨ob,es,ep,t,e,c⟩:=x;exact ⟨ob,es,ep,t,k _ _ (.inl rfl) e,c⟩
 | ins C dx fs =>
  obtain ⟨d,z,ne,e,mA,⟨od,es,ep,e2,c⟩,r⟩:=x
  exact ⟨ho _ d,z,ne,k _ _ (.inl rfl) e,mA,⟨od,es,ep,k _ _ (.inr d) e2,c⟩,r⟩
 | own y=>obtain ⟨ob,e⟩:=x;exact ⟨ob,k _ _ (.inl rfl) e⟩
 | xd fs=>obtain ⟨mA,⟨od,es,ep,e,c⟩,r⟩:=x;exact ⟨mA,⟨od,es,ep,k _ _ (.inl rfl) e,c⟩,r⟩
 | rng lo hi=>obtain ⟨t,u,v,e⟩:=x;exact ⟨t,u,v,k _ _ (.inl rfl) e⟩
 | frz ob u ih=>obtain ⟨e,q⟩:=x;exact ⟨k _ _ (.inl rfl) e,ih q⟩
 | tbl ps =>
  have e:h.get? a=some { cls :=.none,data :=.fields ps }:=x
  show h'.get? a=some { cls :=.none,data :=.fields ps }
  exact k a _ (.inl rfl) e
 | met f y =>
  have e:h.get? a=some (PySem.W.methodObj (.ref f) (.ref y)):=x
  show h'.get? a=some (PySem.W.methodObj (.ref f) (.ref y))
  exact k a _ (.inl rfl) e
 | ext φ=>obtain ⟨p,⟨o,e⟩,st⟩:=x;exact ⟨st _ _ p λo q=>k _ _ (.inl rfl) q,⟨o,k _ _ (.inl rfl) e⟩,st⟩
theorem HOk.lt (x:HOk P w H h)(e:H a=some o):a<h.objs.size:=(x a o e).lt
theorem HOk.fresh (x:HOk P w H h)(e:h.objs.size<=a):H a=none:=by
 cases q:H a with
 | none=>rfl
 | some u=>exact absurd (sT (x.lt q) e) (ux _)
theorem HOk.kept (x:HOk P w H h)(k:∀b u,h.get? b=some u->h'.get? b=some u):HOk P w H h':=λa o e =>
 (x a o e).bT (λb u _ q=>k b u q) (λ_ q=>q) λ_ _ q=>q
theorem HOk.laid (x:HOk P w H h)(k:∀b u,h.get? b=some u->h'.get? b=some u)(hp:h.objs.size<=a)(new:aQ P w (upd H a o) h' a o):HOk P w (upd H a o) h':=λb u e=>by
 have hn:=x.fresh hp
 by_cases hb:b=a
 ·subst hb;rw[ae] at e;cases e;exact new
 ·rw[ai hb] at e
  exact (x b u e).bT (λc v _ q=>k c v q) (λc q=>by rw[ai (aj q hn)];exact q) λc xs q=>by rw[ai (aj q hn)];exact q
end
def Rd (H:Hp)(a:Addr)(u:HO):Prop:=H a=some u\/∃o,H a=some (.frz o u)
theorem Rd.ok {P:tj}{w:ud}{H:Hp}{h:Heap}{a:Addr}{u:HO}(r:Rd H a u)(x:HOk P w H h):aQ P w H h a u:=by
 rcases r with r | ⟨o,r⟩
 ·exact x a u r
 ·obtain ⟨_,q⟩:=x a _ r
  exact q
def Mut:Option HO->Prop
 | some (.lst _)=>True
 | some (.dK _)=>True
 | some (.dT _)=>True
 | some (.set _ _)=>True
 | some (.ins _ _ _)=>True
 | some (.ext _)=>True
 | _=>False
section
variable  {P:tj}{w:ud}{H:Hp}{h h':Heap}{x e:Addr}{o':HO}
theorem HOk.write (ok:HOk P w H h)(mu:Mut (H x))(he:e=x\/H e=some (.own x))(k:∀b u,b≠e->h.get? b=some u->h'.get? b=some u)(heo:∃u,h'.get? e=some u)
  (new:aQ P w (upd H x o') h' x o'):HOk P w (upd H x o') h':=λb u q=>by
 have nown:∀c y,H c=some (.own y)->c≠x:=λc y r z=>by subst z;rw[r] at mu;exact mu
 have ntup:∀c xs,H c=some (.tup xs)->c≠x:=λc xs r z=>by subst z;rw[r] at mu;exact mu
 by_cases hb:b=x
 ·subst hb;rw[ae] at q;cases q;exact new
 ·rw[ai hb] at q
  by_cases hbe:b=e
  ·have q':H b=some (.own x):=by
    rcases he with z | z
    ·exact absurd (hbe.trans z) hb
    ·rw[hbe];exact z
   rw[q] at q';cases q'
   obtain ⟨v,hv⟩:=heo
   exact ⟨v,by rw[hbe];exact hv⟩
  ·refine (ok b u q).bT (λc v hc r=>k c v ?_ r) (λc r=>by rw[ai (nown c b r)];exact r) λc xs r=>by rw[ai (ntup c xs r)];exact r
   rcases hc with rfl | hc
   ·exact hbe
   ·rintro rfl
    rcases he with z | z
    ·exact nown c b hc z
    ·rw[hc] at z;cases z;exact hb rfl
end
structure Un (fs ex:List Addr)(H H':Hp)(h h':Heap):Prop where
 keep:∀b o,h.get? b=some o->H b=none->b∉fs->b∉ex->h'.get? b=some o
 slot:∀b o,h.get? b=some o->H b=none->b∈fs->b∉ex->∃sl,h'.get? b=some { o with slots:=sl }
 free:∀b o,h.get? b=some o->H b=none->b∉ex->H' b=none
 there:∀b o,h.get? b=some o->b∉ex->∃o',h'.get? b=some o'
 tups:∀b xs,H b=some (.tup xs)->H' b=some (.tup xs)
 frzs:∀b o u,H b=some (.frz o u)->H' b=some (.frz o u)
 tbls:∀b ps,H b=some (.tbl ps)->∃more,H' b=some (.tbl (ps++more))
section
variable  {fs fs' ex ex':List Addr}{H H1 H2:Hp}{h h1 h2 h':Heap}{a x e:Addr}{o:HO}
theorem Un.any (u:Un fs ex H H1 h h1){b:Addr}{ob:Obj}(q:h.get? b=some ob)(n:H b=none)(hx:b∉ex):∃sl,h1.get? b=some { ob with slots:=sl }:=by
 by_cases hb:b∈fs
 ·exact u.slot b ob q n hb hx
 ·exact ⟨ob.slots,u.keep b ob q n hb hx⟩
theorem Un.trans (a:Un fs ex H H1 h h1)(b:Un fs ex H1 H2 h1 h2):Un fs ex H H2 h h2 where
 keep:=λc ob q n hc hx=>b.keep c ob (a.keep c ob q n hc hx) (a.free c ob q n hx) hc hx
 slot:=λc ob q n hc hx=>by
  obtain ⟨sl,e1⟩:=a.slot c ob q n hc hx
  obtain ⟨sl',e2⟩:=b.slot c _ e1 (a.free c ob q n hx) hc hx
  exact ⟨sl',e2⟩
 free:=λc ob q n hx=>by
  obtain ⟨o',e1⟩:=a.there c ob q hx
  exact b.free c o' e1 (a.free c ob q n hx) hx
 there:=λc ob q hx=>by
  obtain ⟨o',e1⟩:=a.there c ob q hx
  exact b.there c o' e1 hx
 tups:=λc xs q=>b.tups c xs (a.tups c xs q)
 frzs:=λc ob xs q=>b.frzs c ob xs (a.frzs c ob xs q)
 tbls:=λc ps q=>by
  obtain ⟨m1,e1⟩:=a.tbls c ps q
  obtain ⟨m2,e2⟩:=b.tbls c _ e1
  exact ⟨m1++m2,by rw[e2,xc]⟩
theorem Un.kept (k:∀b u,h.get? b=some u->h'.get? b=some u):Un fs ex H H h h' :=
 ⟨λb ob q _ _ _=>k b ob q,λb ob q _ _ _=>⟨ob.slots,k b ob q⟩,λ_ _ _ n _=>n,λb ob q _=>⟨ob,k b ob q⟩,λ_ _ q=>q,λ_ _ _ q=>q,λ_ ps q=>⟨#[],by rw[q];simp⟩⟩
theorem Un.refl:Un fs ex H H h h:=Un.kept λ_ _ q=>q
theorem Un.laid (k:∀b u,h.get? b=some u->h'.get? b=some u)(hp:h.objs.size<=a)(hn:H a=none):Un fs ex H (upd H a o) h h' where
 keep:=λb u q _ _ _=>k b u q
 slot:=λb u q _ _ _=>⟨u.slots,k b u q⟩
 free:=λb u q n _=>by rw[ai (tW (sT (sV q) hp))];exact n
 there:=λb u q _=>⟨u,k b u q⟩
 tups:=λb xs q=>by rw[ai (aj q hn)];exact q
 frzs:=λb u xs q=>by rw[ai (aj q hn)];exact q
 tbls:=λb ps q=>⟨#[],by rw[ai (aj q hn),q];simp⟩
theorem Un.write (mu:Mut (H x))(he:e=x\/H e=some (.own x))(k:∀b u,b≠e->h.get? b=some u->h'.get? b=some u)(heo:∃u,h'.get? e=some u):Un fs ex H (upd H x o) h h':=by
 have hx:∀b,H b=none->b≠x:=λb n z=>by subst z;rw[n] at mu;exact mu
 have hb:∀b,H b=none->b≠e:=λb n z=>by
  subst z
  rcases he with r | r
  ·exact hx b n r
  ·rw[n] at r;cases r
 have hm:∀b u,H b=some u->¬ Mut (some u)->b≠x:=λb u q nm z=>by subst z;rw[q] at mu;exact nm mu
 refine ⟨λb u q n _ _=>k b u (hb b n) q,λb u q n _ _=>⟨u.slots,k b u (hb b n) q⟩,λb u q n _=>by rw[ai (hx b n)];exact n,λb u q _ =>?_,
  λb xs q=>by rw[ai (hm b _ q λz=>z)];exact q,λb u xs q=>by rw[ai (hm b _ q λz=>z)];exact q,λb ps q=>⟨#[],by rw[ai (hm b _ q λz=>z),q];simp⟩⟩
 by_cases hbe:b=e
 ·subst hbe;exact heo
 ·exact ⟨u,k b u hbe q⟩
end
def trk (h:Heap)(H:Hp):List Addr:=(wL h.objs.size).filter λa=>(H a).isSome
def gL (h:Heap)(H:Hp):Heap:=PySem.W.hideAll h (trk h H)
theorem kO (h:Heap)(H:Hp):(gL h H).objs.size=h.objs.size:=PySem.W.hideAll_size _ _
theorem lU {h:Heap}{H:Hp}{b:Addr}{o:Obj}(e:h.get? b=some o)(n:H b=none):(gL h H).get? b=some o :=
 PySem.W.hideAll_get _ e λhm=>by
  have q:(H b).isSome=true:=(yW.mp hm).2
  rw[n] at q;simp at q
theorem nN {h:Heap}{H:Hp}{b:Addr}{o:Obj}(e:(gL h H).get? b=some o):h.get? b=some o/\H b=none:=by
 have e':h.get? b=some o:=PySem.W.of_hideAll (trk h H) e
 refine ⟨e',?_⟩
 cases q:H b with
 | none=>rfl
 | some x =>
  have hm:b∈trk h H:=yW.mpr ⟨xn.mpr (sV e'),by simp[q]⟩
  have z:(gL h H).get? b=none:=PySem.W.hideAll_none (trk h H) hm
  rw[z] at e;cases e
def nO (g h:Heap)(L:Addr):List (Addr×Obj):=(wL h.objs.size).filterMap λa=>if a=L\/(g.get? a).isSome=true then none else (h.get? a).map λo=>(a,o)
def rest (g h:Heap)(L d:Addr):List (Addr×Obj):=(nO g h L).filter λp=>decide (p.1≠d)
open PySem PySem.Spec PyProof.Rows
structure Mod (K:sI)(mg:Str->Option sJ)(base:Heap):Prop where
 kin:K.In base
 glob:base.Ns tF mg
 blt:∃mb,base.Ns builtinsNs mb/\∀x:Str,x ≠ "__name__" -> mb x=uv x
 nolimit:base.NoLimit
structure Cx where
 prog:tj
 w:ud
 K:sI
 mg:Str->Option sJ
 base:Heap
 A:ue
 N:List Str
 s₀:sL
 H₀:Hp
 env:Env
 outer:List Env
 stack:List Env
 ex:List Addr
 fn:Str->Bool
 calm:Bool
 pn:List (Addr×Obj)
 xe:sJ->sL->Prop
def frs (l:List Env):List Addr:=l.filterMap (·.frame)
abbrev Cx.fs (X:Cx):List Addr:=frs X.outer
def Vis (sc:Scope)(x:Str):Prop:=sc.names.lookup x=some .local\/sc.names.lookup x=some .cell\/sc.names.lookup x=some .free
def Loc (sc:Scope)(x:Str):Prop:=sc.names.lookup x=some .local\/sc.names.lookup x=some .cell
def Look (env:Env)(h:Heap)(m:Str->Option sJ)(x:Str)(u:sJ):Prop :=
 (env.kindOf x=some .local/\m x=some u)\/((env.kindOf x=some .cell\/env.kindOf x=some .free)/\∃c,env.cells.lookup x=some c/\h.IsCell c (some u))
structure Cx.Ok (X:Cx):Prop where
 mod:Mod X.K X.mg X.base
 kind:X.env.scope.kind = .function
 glob:X.env.globals=tF
 blt:X.env.builtins=builtinsNs
 above:X.s₀.heap.objs.size<=X.env.locals
 inj:∀x y c,X.env.cells.lookup x=some c->X.env.cells.lookup y=some c->x=y
 has:∀x,(X.env.kindOf x=some .cell\/X.env.kindOf x=some .free)->∃c,X.env.cells.lookup x=some c
 cab:∀x c,X.fn x=true->X.env.cells.lookup x=some c->X.s₀.heap.objs.size<=c
 hd:X.calm=true->X.A.handled=none
 frames:X.A.frames=some X.stack
 stk:X.stack=X.outer\/(X.stack=X.env :: X.outer/\X.env.frame=some X.env.locals)
 exf:∀b∈X.ex,b≠X.env.locals/\∀x c,X.env.cells.lookup x=some c->c≠b
 bs:∀b o,X.base.get? b=some o->X.s₀.heap.get? b=some o/\X.H₀ b=none
 bsz:X.base.objs.size<=X.s₀.heap.objs.size
 noex:∀b o,X.base.get? b=some o->b∉X.ex
 exfs:∀b∈X.ex,b∉X.fs
 funs:X.s₀.heap.FunFrames X.base X.outer
 frf:∀b∈X.fs,X.H₀ b=none
structure Inv (X:Cx)(pins:List (Addr×Obj))(σ:List (Option V))(H:Hp)(s:sL):Prop where
 ok:X.Ok
 os:s.os=X.s₀.os
 bare:AllBare s.gens
 base:Un X.fs X.ex X.H₀ H X.s₀.heap s.heap
 loc:∃m,s.heap.Ns X.env.locals m/\∀(i:Nat) (x:Str) (v:V),X.N[i]? = some x->σ[i]? = some (some v)->Vis X.env.scope x->∃u,RelV v u/\Look X.env s.heap m x u
 cell:∀x c,X.env.cells.lookup x=some c->∃v,s.heap.IsCell c v
 free:H X.env.locals=none
 freeC:∀x c,X.env.cells.lookup x=some c->H c=none
 pin:∀p∈X.pn++pins,s.heap.get? p.1=some p.2/\H p.1=none/\p.1≠X.env.locals/\p.1∉X.fs/\∀v,p.2.data ≠ .cell v
 hok:HOk X.prog X.w H s.heap
 len:σ.length=X.N.length
section
variable  {X:Cx}{pins:List (Addr×Obj)}{σ:List (Option V)}{H H':Hp}{s:sL}{h':Heap}
theorem Cx.Ok.nofr (ok:X.Ok){b:Addr}{o:Obj}(e:X.base.get? b=some o):b∉X.fs:=λhb=>by
 have:=(ok.funs.mem hb).1
 rw[e] at this;cases this
theorem Inv.bs (I:Inv X pins σ H s):∀b o,X.base.get? b=some o->s.heap.get? b=some o/\H b=none:=λb o e =>
 ⟨I.base.keep b o (I.ok.bs b o e).1 (I.ok.bs b o e).2 (I.ok.nofr e) (I.ok.noex b o e),I.base.free b o (I.ok.bs b o e).1 (I.ok.bs b o e).2 (I.ok.noex b o e)⟩
theorem Inv.bk (I:Inv X pins σ H s):∀b o,X.base.get? b=some o->s.heap.get? b=some o:=λb o e=>(I.bs b o e).1
theorem Inv.mod (I:Inv X pins σ H s):Mod X.K X.mg X.base:=I.ok.mod
theorem Inv.kIn (I:Inv X pins σ H s):X.K.In s.heap:=I.ok.mod.kin.keeps I.bk
theorem Inv.lt (I:Inv X pins σ H s):X.env.locals<s.heap.objs.size:=let ⟨_,hn,_⟩:=I.loc;hn.lt
theorem Inv.sz (I:Inv X pins σ H s):X.s₀.heap.objs.size<=s.heap.objs.size:=tM I.ok.above (xf I.lt)
theorem Inv.pP (I:Inv X pins σ H s){a:Addr}(h:s.heap.objs.size<=a):a∉X.fs:=λhb=>by
 obtain ⟨_,o,ho,_⟩:=I.ok.funs.mem hb
 exact absurd (sT (sV ho) (tM I.sz h)) (ux _)
theorem Inv.cne (I:Inv X pins σ H s):∀x c,X.env.cells.lookup x=some c->c≠X.env.locals:=λx c e z=>by
 obtain ⟨v,o,ho,hd⟩:=I.cell x c e
 obtain ⟨m,⟨o',es,ep,ho',hd',_⟩,_⟩:=I.loc
 rw[z,ho'] at ho;cases ho;rw[hd'] at hd;cases hd
theorem Inv.funs (I:Inv X pins σ H s):s.heap.FunFrames X.base X.outer:=by
 have all:∀(l:List Env),(∀b∈frs l,b∈X.fs)->X.s₀.heap.FunFrames X.base l->s.heap.FunFrames X.base l:=by
  intro l
  induction l with
  | nil=>intro _ _;trivial
  | cons env r ih =>
   intro hs hl
   obtain ⟨hk,⟨L,o,hf,hn,ho,hd⟩,hr⟩:=hl
   have hL:L∈X.fs:=hs L (by unfold frs;rw[uF,hf];exact ur)
   obtain ⟨sl,e⟩:=I.base.slot L o ho (I.ok.frf L hL) hL λz=>I.ok.exfs L z hL
   exact ⟨hk,⟨L,_,hf,hn,e,hd⟩,ih (λb hb=>hs b (by unfold frs;rw[uF,hf];exact tS _ hb)) hr⟩
 exact all X.outer (λ_ hb=>hb) I.ok.funs
theorem Inv.stack (I:Inv X pins σ H s):s.heap.FunFrames X.base X.stack:=by
 rcases I.ok.stk with e | ⟨e,hf⟩
 ·rw[e];exact I.funs
 ·rw[e]
  obtain ⟨m,hn,_⟩:=I.loc
  refine .cons (by rw[I.ok.kind];decide) hf hn ?_ I.funs
  exact vW (tM I.ok.bsz I.ok.above)
theorem Inv.gM (I:Inv X pins σ H s):∀b∈frs X.stack,b∈X.env.locals :: X.fs:=λb hb=>by
 rcases I.ok.stk with e | ⟨e,hf⟩
 ·rw[e] at hb;exact tS _ hb
 ·rw[e] at hb
  unfold frs at hb
  rw[uF,hf] at hb
  exact hb
theorem Inv.fb (I:Inv X pins σ H s):∀b∈frs X.stack,H b=none:=λb hb=>by
 rcases tG.mp (I.gM b hb) with e | hb
 ·rw[e];exact I.free
 ·obtain ⟨_,o,ho,_⟩:=I.ok.funs.mem hb
  exact I.base.free b o ho (I.ok.frf b hb) λz=>I.ok.exfs b z hb
theorem Inv.step {g':Array GenState}{t':Nat}{d':Drawn}{ch:List Addr}(I:Inv X pins σ H s)
  (hch:∀b∈ch,(b∈X.ex\/X.s₀.heap.objs.size<=b)/\b≠X.env.locals/\(∀x c,X.env.cells.lookup x=some c->c≠b)/\∀p∈X.pn++pins,p.1≠b)
  (keep:∀b o,b≠X.env.locals->b∉X.fs->b∉ch->s.heap.get? b=some o->H b=none->h'.get? b=some o)
  (slot:∀b o,b≠X.env.locals->b∈X.fs->b∉ch->s.heap.get? b=some o->H b=none->∃sl,h'.get? b=some { o with slots:=sl }) (free:∀b o,b∉ch->s.heap.get? b=some o->H b=none->H' b=none)
  (there:∀b o,b∉ch->s.heap.get? b=some o->∃o',h'.get? b=some o')
  (tups:∀b xs,H b=some (.tup xs)->H' b=some (.tup xs)) (frzs:∀b o u,H b=some (.frz o u)->H' b=some (.frz o u)) (tbls:∀b ps,H b=some (.tbl ps)->∃more,H' b=some (.tbl (ps++more)))
  (ns:∀m,s.heap.Ns X.env.locals m->h'.Ns X.env.locals m) (hok:HOk X.prog X.w H' h') (hg:AllBare g') :
  Inv X pins σ H' { s with heap:=h',gens:=g',drawn:=d',toks:=t' }:=by
 have neL:∀b o,X.s₀.heap.get? b=some o->b≠X.env.locals:=λb o e=>tW (sT (sV e) I.ok.above)
 have neC:∀b o,X.s₀.heap.get? b=some o->b∉X.ex->b∉ch:=λb o e hx hb=>by
  rcases (hch b hb).1 with z | z
  ·exact hx z
  ·exact absurd (sT (sV e) z) (ux _)
 have cellK:∀x c,X.env.cells.lookup x=some c->∀v,s.heap.IsCell c v->h'.IsCell c v:=λx c e v ⟨o,ho,hd⟩=>by
  have nch:c∉ch:=λz=>(hch c z).2.2.1 x c e rfl
  by_cases hc:c∈X.fs
  ·obtain ⟨sl,q⟩:=slot c o (I.cne x c e) hc nch ho (I.freeC x c e)
   exact ⟨_,q,hd⟩
  ·exact ⟨o,keep c o (I.cne x c e) hc nch ho (I.freeC x c e),hd⟩
 refine ⟨I.ok,I.os,hg,⟨λb o e n hb hx =>?_,λb o e n hb hx =>?_,λb o e n hx =>?_,λb o e hx =>?_,λb xs e=>tups b xs (I.base.tups b xs e),λb o xs e=>frzs b o xs (I.base.frzs b o xs e),λb ps e =>?_⟩,?_,λx c e =>?_,?_,λx c e =>?_,λp hp =>?_,hok,I.len⟩
 ·exact keep b o (neL b o e) hb (neC b o e hx) (I.base.keep b o e n hb hx) (I.base.free b o e n hx)
 ·obtain ⟨sl,e1⟩:=I.base.slot b o e n hb hx
  obtain ⟨sl',e2⟩:=slot b _ (neL b o e) hb (neC b o e hx) e1 (I.base.free b o e n hx)
  exact ⟨sl',e2⟩
 ·obtain ⟨o',e1⟩:=I.base.there b o e hx
  exact free b o' (neC b o e hx) e1 (I.base.free b o e n hx)
 ·obtain ⟨o',e1⟩:=I.base.there b o e hx
  exact there b o' (neC b o e hx) e1
 ·obtain ⟨m1,e1⟩:=I.base.tbls b ps e
  obtain ⟨m2,e2⟩:=tbls b _ e1
  exact ⟨m1++m2,by rw[e2,xc]⟩
 ·obtain ⟨m,hn,hl⟩:=I.loc
  refine ⟨m,ns m hn,λi x v e1 e2 e3 =>?_⟩
  obtain ⟨u,r,l⟩:=hl i x v e1 e2 e3
  refine ⟨u,r,?_⟩
  rcases l with l | ⟨k,c,e,z⟩
  ·exact .inl l
  ·exact .inr ⟨k,c,e,cellK x c e _ z⟩
 ·obtain ⟨v,z⟩:=I.cell x c e
  exact ⟨v,cellK x c e v z⟩
 ·obtain ⟨m,⟨o,_,_,ho,_⟩,_⟩:=I.loc
  exact free _ o (λz=>(hch _ z).2.1 rfl) ho I.free
 ·obtain ⟨v,o,ho,hd⟩:=I.cell x c e
  exact free c o (λz=>(hch c z).2.2.1 x c e rfl) ho (I.freeC x c e)
 ·obtain ⟨e,n,ne,nf,d⟩:=I.pin p hp
  have nch:p.1∉ch:=λz=>(hch p.1 z).2.2.2 p hp rfl
  exact ⟨keep p.1 p.2 ne nf nch e n,free p.1 p.2 nch e n,ne,nf,d⟩
theorem Inv.un {t':Nat}(I:Inv X pins σ H s)(u:Un X.fs [] H H' s.heap h')(hok:HOk X.prog X.w H' h'):Inv X pins σ H' { s with heap:=h',toks:=t' }:=by
 obtain ⟨m,⟨o,es,ep,ho,r⟩,_⟩:=id I.loc
 obtain ⟨sl,hL⟩:=u.any ho I.free (by simp)
 exact I.step (g':=s.gens) (d':=s.drawn) (ch:=[]) (λ_ z=>nomatch z) (λb o _ hb _ e n=>u.keep b o e n hb (by simp)) (λb o _ hb _ e n=>u.slot b o e n hb (by simp)) (λb o _ e n=>u.free b o e n (by simp)) (λb o _ e=>u.there b o e (by simp)) u.tups u.frzs u.tbls (λm' hm=>by
  obtain ⟨o',es',ep',ho',r'⟩:=hm
  rw[ho] at ho';cases ho'
  exact ⟨_,es',ep',hL,r'⟩) hok I.bare
theorem Inv.call {g':Array GenState}{t':Nat}{d':Drawn}{ch:List Addr}(I:Inv X pins σ H s)(u:Un (frs X.stack) ch H H' s.heap h')(hok:HOk X.prog X.w H' h')(hg:AllBare g')
  (hch:∀b∈ch,(b∈X.ex\/X.s₀.heap.objs.size<=b)/\b≠X.env.locals/\(∀x c,X.env.cells.lookup x=some c->c≠b)/\∀p∈X.pn++pins,p.1≠b) :
  Inv X pins σ H' { s with heap:=h',gens:=g',drawn:=d',toks:=t' }:=by
 obtain ⟨m,⟨o,es,ep,ho,r⟩,_⟩:=id I.loc
 obtain ⟨sl,hL⟩:=u.any ho I.free λz=>(hch _ z).2.1 rfl
 exact I.step (ch:=ch) hch (λb o hL hb hc e n=>u.keep b o e n (λz=>(tG.mp (I.gM b z)).elim hL hb) hc) (λb o _ _ hc e n=>u.any e n hc) (λb o hc e n=>u.free b o e n hc) (λb o hc e=>u.there b o e hc) u.tups u.frzs u.tbls (λm' hm=>by
  obtain ⟨o',es',ep',ho',r'⟩:=hm
  rw[ho] at ho';cases ho'
  exact ⟨_,es',ep',hL,r'⟩) hok hg
theorem Inv.turned {t':Nat}{it:Addr}(I:Inv X pins σ H s)(k:∀b o,b≠it->s.heap.get? b=some o->h'.get? b=some o)(hn:H it=none)(hL:it≠X.env.locals)
  (h1:it∈X.ex\/X.s₀.heap.objs.size<=it) (h2:∀x c,X.env.cells.lookup x=some c->c≠it) (h3:∀p∈X.pn++pins,p.1≠it):Inv X pins σ H { s with heap:=h',toks:=t' }:=by
 have nit:∀b u,H b=some u->b≠it:=λb u e z=>by rw[z,hn] at e;cases e
 refine I.step (g':=s.gens) (d':=s.drawn) (ch:=[it]) (λb hb =>?_) (λb o _ _ hc e _=>k b o (λz=>hc (by simp[z])) e) (λb o _ _ hc e _=>⟨o.slots,k b o (λz=>hc (by simp[z])) e⟩) (λ_ _ _ _ n=>n)
  (λb o hc e=>⟨o,k b o (λz=>hc (by simp[z])) e⟩) (λ_ _ e=>e) (λ_ _ _ e=>e) (λb ps e=>⟨#[],by rw[e];simp⟩) (λm hm =>?_) (λb u e =>?_) I.bare
 ·have e:b=it:=by simpa using hb
  subst e
  exact ⟨h1,hL,h2,h3⟩
 ·obtain ⟨o,es,ep,ho,r⟩:=hm
  exact ⟨o,es,ep,k _ o (vf hL) ho,r⟩
 ·refine (I.hok b u e).bT (λc v hc q=>k c v ?_ q) (λ_ q=>q) λ_ _ q=>q
  rcases hc with z | z
  ·rw[z];exact nit b u e
  ·exact nit c _ z
theorem Inv.tok (I:Inv X pins σ H s)(t:Nat):Inv X pins σ H { s with toks:=t }:=I.un (h':=s.heap) (t':=t) Un.refl I.hok
theorem Inv.kept {t':Nat}(I:Inv X pins σ H s)(k:∀b u,s.heap.get? b=some u->h'.get? b=some u):Inv X pins σ H { s with heap:=h',toks:=t' }:=I.un (Un.kept k) (I.hok.kept k)
theorem Inv.laid {a:Addr}{o:HO}{t':Nat}(I:Inv X pins σ H s)(k:∀b u,s.heap.get? b=some u->h'.get? b=some u)(hp:s.heap.objs.size<=a)(new:aQ X.prog X.w (upd H a o) h' a o) :
  Inv X pins σ (upd H a o) { s with heap:=h',toks:=t' }:=I.un (Un.laid k hp (I.hok.fresh hp)) (I.hok.laid k hp new)
theorem Inv.write {x e:Addr}{o:HO}{t':Nat}(I:Inv X pins σ H s)(mu:Mut (H x))(he:e=x\/H e=some (.own x))(k:∀b u,b≠e->s.heap.get? b=some u->h'.get? b=some u)(heo:∃u,h'.get? e=some u)
  (new:aQ X.prog X.w (upd H x o) h' x o):Inv X pins σ (upd H x o) { s with heap:=h',toks:=t' }:=I.un (Un.write mu he k heo) (I.hok.write mu he k heo new)
theorem Inv.dE {pins':List (Addr×Obj)}(I:Inv X pins σ H s)(h:∀p∈pins',s.heap.get? p.1=some p.2/\H p.1=none/\p.1≠X.env.locals/\p.1∉X.fs/\∀v,p.2.data ≠ .cell v):Inv X pins' σ H s :=
 ⟨I.ok,I.os,I.bare,I.base,I.loc,I.cell,I.free,I.freeC,λp hp=>(tO.mp hp).elim (λz=>I.pin p (yg _ z)) (h p),I.hok,I.len⟩
theorem ft {N:List Str}(hN:N.Nodup){i j:Nat}{x:Str}(a:N[i]? = some x)(b:N[j]? = some x):i=j:=by
 obtain ⟨h1,e1⟩:=sQ.mp a
 obtain ⟨h2,e2⟩:=sQ.mp b
 exact (List.getElem_inj hN).mp (e1.trans e2.symm)
theorem kP {M:Model}{A:ue}{E:sJ->sL->Prop}{i:Nat}{x:Str}{v:V}{u:sJ}{Q:Unit->sL->Prop}(I:Inv X pins σ H s)(hN:X.N.Nodup)(hi:X.N[i]? = some x)(hx:Loc X.env.scope x)(r:RelV v u)
  (h:∀s',Inv X pins (σ.set i (some v)) H s'->(∃a,Heap.SameBut a s.heap s'.heap/\(a=X.env.locals\/X.env.cells.lookup x=some a))->Q () s') (hf:X.fn x=true\/X.env.scope.names.lookup x=some .local:=by first | exact .inl rfl | exact .inr rfl | assumption):tP M A (storeName X.env x u) Q E s:=by
 obtain ⟨m,hn,hl⟩:=id I.loc
 have hcls:(X.env.scope.kind == .class || (X.env.scope.kind == .module && X.env.locals != X.env.globals))=false:=by rw[I.ok.kind];rfl
 have hiσ:i<σ.length:=by rw[I.len];exact (sQ.mp hi).1
 have cne:=I.cne
 have tracked:∀{a:Addr} {h':Heap},(∃o,s.heap.get? a=some o/\H a=none)->Heap.SameBut a s.heap h'->HOk X.prog X.w H h':=λ{a h'} ha hs b ob e=>by
  obtain ⟨_,_,hfree⟩:=ha
  refine (I.hok b ob e).bT (λc w' hc q=>(hs.2 c ?_).trans q) (λ_ q=>q) λ_ _ q=>q
  rintro rfl
  rcases hc with rfl | hc
  ·rw[hfree] at e;cases e
  ·rw[hfree] at hc;cases hc
 rcases hx with hk | hk
 ·refine wpAny_storeName_local hk hn (λh' hn' hs =>?_) hcls
  obtain ⟨oL,_,_,hoL,_⟩:=id hn
  refine h _ ⟨I.ok,I.os,I.bare,⟨λb o e n hb hx =>?_,λb o e n hb hx =>?_,I.base.free,λb o e hx =>?_,I.base.tups,I.base.frzs,I.base.tbls⟩,⟨_,hn',λj y v' e1 e2 e3 =>?_⟩,λy c e =>?_,I.free,I.freeC,λp hp =>?_,tracked ⟨oL,hoL,I.free⟩ hs,by simpa using I.len⟩ ⟨_,hs,.inl rfl⟩
  ·exact (hs.2 b (tW (sT (sV e) I.ok.above))).trans (I.base.keep b o e n hb hx)
  ·obtain ⟨sl,e1⟩:=I.base.slot b o e n hb hx
   exact ⟨sl,(hs.2 b (tW (sT (sV e) I.ok.above))).trans e1⟩
  ·obtain ⟨o',e1⟩:=I.base.there b o e hx
   exact ⟨o',(hs.2 b (tW (sT (sV e) I.ok.above))).trans e1⟩
  ·by_cases hj:j=i
   ·subst hj
    rw[hi] at e1;cases e1
    rw[vG hiσ] at e2
    cases e2
    exact ⟨u,r,.inl ⟨hk,by simp⟩⟩
   ·rw[wD (vf hj)] at e2
    obtain ⟨u',r',q⟩:=hl j y v' e1 e2 e3
    refine ⟨u',r',?_⟩
    rcases q with ⟨k,e⟩ | ⟨k,c,e,z⟩
    ·refine .inl ⟨k,?_⟩
     have:y≠x:=λe=>hj (ft hN e1 (e ▸ hi))
     simp[this,e]
    ·exact .inr ⟨k,c,e,z.sameBut hs (cne y c e)⟩
  ·obtain ⟨w',z⟩:=I.cell y c e
   exact ⟨w',z.sameBut hs (cne y c e)⟩
  ·obtain ⟨e,n,ne,nf,d⟩:=I.pin p hp
   exact ⟨(hs.2 p.1 ne).trans e,n,ne,nf,d⟩
 ·have hfn:X.fn x=true:=by
   rcases hf with z | z
   ·exact z
   ·rw[z] at hk;cases hk
  obtain ⟨c,hc⟩:=I.ok.has x (.inl hk)
  obtain ⟨w',z⟩:=I.cell x c hc
  refine wpAny_storeName_cell I.ok.kind hk hc z (λh' hc' hs =>?_)
  obtain ⟨oc,hoc,hocd⟩:=id z
  refine h { s with heap:=h' } ⟨I.ok,I.os,I.bare,⟨λb o e n hb hx =>?_,λb o e n hb hx =>?_,I.base.free,λb o e hx =>?_,I.base.tups,I.base.frzs,I.base.tbls⟩,⟨m,hn.sameBut hs (vf (cne x c hc)),λj y v' e1 e2 e3 =>?_⟩,λy c' e =>?_,I.free,I.freeC,λp hp =>?_,tracked ⟨oc,hoc,I.freeC x c hc⟩ hs,by simpa using I.len⟩ ⟨c,hs,.inr hc⟩
  ·exact (hs.2 b (tW (sT (sV e) (I.ok.cab x c hfn hc)))).trans (I.base.keep b o e n hb hx)
  ·obtain ⟨sl,e1⟩:=I.base.slot b o e n hb hx
   exact ⟨sl,(hs.2 b (tW (sT (sV e) (I.ok.cab x c hfn hc)))).trans e1⟩
  ·obtain ⟨o',e1⟩:=I.base.there b o e hx
   exact ⟨o',(hs.2 b (tW (sT (sV e) (I.ok.cab x c hfn hc)))).trans e1⟩
  ·by_cases hj:j=i
   ·subst hj
    rw[hi] at e1;cases e1
    rw[vG hiσ] at e2
    cases e2
    exact ⟨u,r,.inr ⟨.inl hk,c,hc,hc'⟩⟩
   ·rw[wD (vf hj)] at e2
    obtain ⟨u',r',q⟩:=hl j y v' e1 e2 e3
    refine ⟨u',r',?_⟩
    rcases q with q | ⟨k,c',e,z'⟩
    ·exact .inl q
    ·refine .inr ⟨k,c',e,z'.sameBut hs ?_⟩
     rintro rfl
     exact hj (ft hN e1 (I.ok.inj _ _ _ e hc ▸ hi))
  ·by_cases hcc:c'=c
   ·subst hcc;exact ⟨_,hc'⟩
   ·obtain ⟨w2,z2⟩:=I.cell y c' e
    exact ⟨w2,z2.sameBut hs hcc⟩
  ·obtain ⟨e,n,ne,nf,d⟩:=I.pin p hp
   refine ⟨(hs.2 p.1 ?_).trans e,n,ne,nf,d⟩
   intro q
   rw[q,hoc] at e
   have q':oc=p.2:=tV e
   exact d w' (by rw[<- q'];exact hocd)
theorem fu {M:Model}{A:ue}{E:sJ->sL->Prop}{i:Nat}{x:Str}{v:V}{u:sJ}{Q:Unit->sL->Prop}(I:Inv X pins σ H s)(hN:X.N.Nodup)(hi:X.N[i]? = some x)(hx:Loc X.env.scope x)(r:RelV v u)
  (h:∀s',Inv X pins (σ.set i (some v)) H s'->Q () s') (hf:X.fn x=true\/X.env.scope.names.lookup x=some .local:=by first | exact .inl rfl | exact .inr rfl | assumption):tP M A (storeName X.env x u) Q E s :=
 kP I hN hi hx r (λs' I' _=>h s' I') hf
theorem Inv.o6 {s':sL}{ch:List Addr}(I:Inv X pins σ H s)(ho:s'.os=s.os)(u:Un (frs X.stack) ch H H' s.heap s'.heap)(hok:HOk X.prog X.w H' s'.heap)(hg:AllBare s'.gens)
  (hch:∀b∈ch,(b∈X.ex\/X.s₀.heap.objs.size<=b)/\b≠X.env.locals/\(∀x c,X.env.cells.lookup x=some c->c≠b)/\∀p∈X.pn++pins,p.1≠b):Inv X pins σ H' s':=by
 obtain ⟨h',g',d',t',o'⟩:=s'
 have e:o'=s.os:=ho
 subst e
 exact I.call (g':=g') (t':=t') (d':=d') u hok hg hch
end
abbrev XK:=sJ->Option Addr->Hp->Prop
abbrev St:=List (Option V)
abbrev VK:=V->Hp->Prop
abbrev TE:=St->Hp->VK->Prop
abbrev TT:=St->Hp->(Bool->Hp->Prop)->Prop
abbrev TA:=St->Hp->(List V->Hp->Prop)->Prop
structure Ends where
 nx:St->Hp->Prop
 rt:VK
 bk:St->Hp->Prop:=λ_ _=>False
 ct:St->Hp->Prop:=λ_ _=>False
abbrev TS:=Ends->St->Hp->Prop
def EP (X:Cx)(pins:List (Addr×Obj))(σ:St)(Q:VK)(u:sJ)(s':sL):Prop:=∃v H',Inv X pins σ H' s'/\RelV v u/\Q v H'
def TP (X:Cx)(pins:List (Addr×Obj))(σ:St)(Q:Bool->Hp->Prop)(b:Bool)(s':sL):Prop:=∃H',Inv X pins σ H' s'/\Q b H'
def AP (X:Cx)(pins:List (Addr×Obj))(σ:St)(Q:List V->Hp->Prop)(us:List sJ)(s':sL):Prop:=∃vs H',Inv X pins σ H' s'/\Vals vs us/\Q vs H'
def SP (X:Cx)(pins:List (Addr×Obj))(D:Ends)(f:Flow)(s':sL):Prop :=
 match f with
 | .next=>∃σ' H',Inv X pins σ' H' s'/\D.nx σ' H'
 | .brk=>∃σ' H',Inv X pins σ' H' s'/\D.bk σ' H'
 | .cont=>∃σ' H',Inv X pins σ' H' s'/\D.ct σ' H'
 | .ret u=>∃v σ' H',Inv X pins σ' H' s'/\RelV v u/\D.rt v H'
def PE (X:Cx)(e:Expr)(t:TE):Prop :=
 ∀(pins:List (Addr×Obj)) (s:sL) (σ:St) (H:Hp) (Q:VK),Inv X pins σ H s->t σ H Q->tP (tN X.prog X.w) X.A (eval e X.env) (EP X pins σ Q) X.xe s
def PT (X:Cx)(e:Expr)(t:TT):Prop :=
 ∀(pins:List (Addr×Obj)) (s:sL) (σ:St) (H:Hp) (Q:Bool->Hp->Prop),Inv X pins σ H s->t σ H Q->tP (tN X.prog X.w) X.A (isTrue e X.env (eval e X.env)) (TP X pins σ Q) X.xe s
def PW (X:Cx)(e:Expr)(t:TT):Prop :=
 ∀(whole:Sem sJ) (pins:List (Addr×Obj)) (s:sL) (σ:St) (H:Hp) (Q:Bool->Hp->Prop),Inv X pins σ H s->t σ H Q->tP (tN X.prog X.w) X.A (isTrue e X.env whole) (TP X pins σ Q) X.xe s
theorem PW.pt {X:Cx}{e:Expr}{t:TT}(h:PW X e t):PT X e t:=h _
def PA (X:Cx)(es:List Expr)(t:TA):Prop :=
 ∀(pos:Pos) (pins:List (Addr×Obj)) (s:sL) (σ:St) (H:Hp) (Q:List V->Hp->Prop),Inv X pins σ H s->t σ H Q->tP (tN X.prog X.w) X.A (spliced (vV pos (tU es X.env))) (AP X pins σ Q) X.xe s
def PS (X:Cx)(st:Stmt)(t:TS):Prop :=
 ∀(pins:List (Addr×Obj)) (s:sL) (σ:St) (H:Hp) (D:Ends),Inv X pins σ H s->t D σ H->tP (tN X.prog X.w) X.A (exec st X.env) (SP X pins D) X.xe s
def PSs (X:Cx)(st:List Stmt)(t:TS):Prop :=
 ∀(pins:List (Addr×Obj)) (s:sL) (σ:St) (H:Hp) (D:Ends),Inv X pins σ H s->t D σ H->tP (tN X.prog X.w) X.A (execs st X.env) (SP X pins D) X.xe s
theorem thn {α:Type}{t:Sem α}{Q Q':α -> sL->Prop}{M:Model}{A:ue}{E:sJ->sL->Prop}{s:sL}(h:tP M A t Q E s)(hQ:∀a s,Q a s->Q' a s):tP M A t Q' E s:=uw h hQ λ_ _ x=>x
open PySem PySem.Spec PyProof.Rows
section
variable  {X:Cx}
theorem bin {a b:Expr}{ta tb:TE}(ha:PE X a ta)(hb:PE X b tb){pins:List (Addr×Obj)}{s:sL}{σ:St}{H:Hp}{R:V->V->Hp->Prop}(I:Inv X pins σ H s)(h:ta σ H λx H1=>tb σ H1 λy H2=>R x y H2)
  {α:Type} {Q:α -> sL->Prop} {f:sJ->sJ->Sem α}
  (hf:∀v u s2 x y H2,Inv X pins σ H2 s2->RelV x v->RelV y u->R x y H2->tP (tN X.prog X.w) X.A (f v u) Q X.xe s2) :
  tP (tN X.prog X.w) X.A (eval a X.env) (λv s₁=>tP (tN X.prog X.w) X.A (eval b X.env) (λu s₂=>tP (tN X.prog X.w) X.A (f v u) Q X.xe s₂) X.xe s₁) X.xe s:=by
 refine thn (ha pins s σ H _ I h) λv s1 ⟨x,H1,I1,r1,q1⟩ =>?_
 refine thn (hb pins s1 σ H1 _ I1 q1) λu s2 ⟨y,H2,I2,r2,q2⟩ =>?_
 exact hf v u s2 x y H2 I2 r1 r2 q2
def pQ (i:Nat):TE:=λσ H Q=>∃v,σ[i]? = some (some v)/\Q v H
def tC (v:V):TE:=λ_ H Q=>Q v H
theorem pR {i:Nat}{x:Str}{pos:Pos}(hN:X.N[i]? = some x)(hv:Vis X.env.scope x)(hd:(x == ("__debug__" : Str))=false:=by decide)(hcd:(x == ("__classdict__" : Str))=false:=by decide):PE X (.Name x pos) (pQ i):=by
 intro pins s σ H Q I h
 obtain ⟨v,e,h⟩:=h
 obtain ⟨m,hn,hl⟩:=I.loc
 obtain ⟨u,r,l⟩:=hl i x v hN e hv
 have fin:EP X pins σ Q u s:=⟨v,H,I,r,h⟩
 rcases l with ⟨hk,hm⟩ | ⟨hk,c,hc,hcell⟩
 ·exact zv (wpAny_loadName_local I.ok.kind hk hn hm fin) hd
 ·rcases hk with hk | hk
  ·exact zv (wpAny_loadName_cell I.ok.kind hk hc hcell fin) hd
  ·exact zv (wpAny_loadName_free I.ok.kind hk hc hcell fin hcd) hd
theorem ah {i j pos}:PE X (.Constant (.int i) j pos) (tC (.int i)):=λ_ _ _ H _ I h=>wpAny_Constant_int ⟨.int i,H,I.tok _,⟨_,rfl⟩,h⟩
theorem eM {b j pos}:PE X (.Constant (.bool b) j pos) (tC (.bl b)):=λ_ _ _ H _ I h=>Constant_bool ⟨.bl b,H,I,rfl,h⟩
theorem cx {j pos}:PE X (.Constant .none j pos) (tC .non):=λ_ _ _ H _ I h=>Constant_none ⟨.non,H,I,rfl,h⟩
theorem bC {x j pos}:PE X (.Constant (.str x) j pos) (tC (.str x)):=λ_ _ _ H _ I h=>Calls.Constant_str ⟨.str x,H,I.tok _,⟨_,rfl⟩,h⟩
def Gl (X:Cx)(x:Str):Prop:=X.env.kindOf x=some .globalImplicit
theorem bU {E:sJ->sL->Prop}{pins:List (Addr×Obj)}{s:sL}{σ:St}{H:Hp}{x:Str}{u:sJ}{pos:Pos}{Q:sJ->sL->Prop}(I:Inv X pins σ H s)(hg:Gl X x)(hm:X.mg x=some u)(h:Q u s)
  (hd:(x == ("__debug__" : Str))=false:=by decide):tP (tN X.prog X.w) X.A (eval (.Name x pos) X.env) Q E s :=
 wZ I.ok.kind hg (Calls.loadGlobal_global (by rw[I.ok.glob];exact I.mod.glob.keeps I.bk) hm h) hd
theorem dY {E:sJ->sL->Prop}{pins:List (Addr×Obj)}{s:sL}{σ:St}{H:Hp}{x:Str}{u:sJ}{pos:Pos}{Q:sJ->sL->Prop}(I:Inv X pins σ H s)(hg:Gl X x)(hm:X.mg x=none)(hv:uv x=some u)(h:Q u s)
  (hn:x ≠ "__name__" := by decide) (hd:(x == ("__debug__" : Str))=false:=by decide):tP (tN X.prog X.w) X.A (eval (.Name x pos) X.env) Q E s:=by
 obtain ⟨mb,h1,h2⟩:=I.mod.blt
 exact wZ I.ok.kind hg (Calls.loadGlobal_builtin (by rw[I.ok.glob];exact I.mod.glob.keeps I.bk) hm (by rw[I.ok.blt];exact h1.keeps I.bk) ((h2 x hn).trans hv) h) hd
theorem aE {x:Str}{v:V}{u:sJ}{pos:Pos}(hg:Gl X x)(hm:X.mg x=some u)(r:RelV v u)(hd:(x == ("__debug__" : Str))=false:=by decide):PE X (.Name x pos) (tC v) :=
 λ_ _ _ H _ I h=>bU I hg hm ⟨v,H,I,r,h⟩ hd
theorem bV {x:Str}{v:V}{u:sJ}{pos:Pos}(hg:Gl X x)(hm:X.mg x=none)(hv:uv x=some u)(r:RelV v u)(hn:x ≠ "__name__" := by decide)(hd:(x == ("__debug__" : Str))=false:=by decide):PE X (.Name x pos) (tC v) :=
 λ_ _ _ H _ I h=>dY I hg hm hv ⟨v,H,I,r,h⟩ hn hd
variable  {a b:Expr}{ta tb:TE}{pos:Pos}
def PC (X:Cx)(op:CmpOp)(a b:Expr)(t:TE):Prop :=
 ∀(pins:List (Addr×Obj)) (s:sL) (σ:St) (H:Hp) (Q:VK),Inv X pins σ H s->t σ H Q →
  tP (tN X.prog X.w) X.A (eval a X.env) (λv s₁=>tP (tN X.prog X.w) X.A (eval b X.env) (λu s₂=>tP (tN X.prog X.w) X.A (uW op v u) (EP X pins σ Q) X.xe s₂) X.xe s₁) X.xe s
theorem lV (b:Expr){op:CmpOp}(h:op ≠ .In)(h2:op ≠ .NotIn):behindInMarks op b=false:=by
 have e1:(op == CmpOp.In)=false:=by cases op <;> first | rfl | exact absurd rfl h
 have e2:(op == CmpOp.NotIn)=false:=by cases op <;> first | rfl | exact absurd rfl h2
 cases b <;> simp[behindInMarks,e1,e2]
def tB (t:TE):TT:=λσ H Q=>t σ H λx H1=>∃c,x = .bl c/\Q c H1
theorem pt_cmp {op:CmpOp}{t:TE}(h:PC X op a b t)(h1:behindInMarks op b=false:=by first | exact lV _ (by decide) (by decide) | rfl):PT X (.Compare a [op] [b] pos) (tB t):=by
 intro pins s σ H Q I hw
 refine x8 (thn (h pins s σ H _ I hw) λv s1 h1=>thn h1 λu s2 h2=>thn h2 λc s3 ⟨x,H1,I1,r1,q1⟩ =>?_) h1
 obtain ⟨d,rfl,q⟩:=q1
 cases r1
 exact uM ⟨H1,I1,q⟩
theorem bG {e:Expr}{t:TE}(h:PE X e t)(he:∀whole,isTrue e X.env whole=(do let v ← whole;standAt e.pos;zc [v] (truthy v)):=by intro _;rfl):PT X e (tB t):=by
  intro pins s σ H Q I hw
  refine isTrue_plain (thn (h pins s σ H _ I hw) λv s1 ⟨x,H1,I1,r1,q1⟩ =>?_) (he _)
  obtain ⟨d,rfl,q⟩:=q1
  cases r1
  exact uM ⟨H1,I1,q⟩
variable  {tA tB':TT}{rest:List Expr}
def tAnd (t u:TT):TT:=λσ H Q=>t σ H λc H1=>if c=true then u σ H1 Q else Q false H1
def tOr (t u:TT):TT:=λσ H Q=>t σ H λc H1=>if c=true then Q true H1 else u σ H1 Q
def tNot (t:TT):TT:=λσ H Q=>t σ H λc H1=>Q (!c) H1
theorem dF (ha:PT X a tA):PW X (.BoolOp .And [a] pos) tA:=by
 intro wh pins s σ H Q I h
 refine isTrue_and (thn (ha pins s σ H Q I h) λc s1 e =>?_)
 cases c with
 | true=>exact isTrue_and_nil e
 | false=>exact e
theorem gN (ha:PT X a tA):PW X (.BoolOp .Or [a] pos) tA:=by
 intro wh pins s σ H Q I h
 refine isTrue_or (thn (ha pins s σ H Q I h) λc s1 e =>?_)
 cases c with
 | false=>exact isTrue_or_nil e
 | true=>exact e
theorem dZ (ha:PT X a tA)(hb:PW X (.BoolOp .And (b :: rest) pos) tB'):PW X (.BoolOp .And (a :: b :: rest) pos) (tAnd tA tB'):=by
 intro wh pins s σ H Q I h
 refine isTrue_and (thn (ha pins s σ H _ I h) λc s1 ⟨H1,I1,q1⟩ =>?_)
 cases c with
 | true=>exact hb wh pins s1 σ H1 Q I1 q1
 | false=>exact ⟨H1,I1,q1⟩
theorem gh (ha:PT X a tA)(hb:PW X (.BoolOp .Or (b :: rest) pos) tB'):PW X (.BoolOp .Or (a :: b :: rest) pos) (tOr tA tB'):=by
 intro wh pins s σ H Q I h
 refine isTrue_or (thn (ha pins s σ H _ I h) λc s1 ⟨H1,I1,q1⟩ =>?_)
 cases c with
 | true=>exact ⟨H1,I1,q1⟩
 | false=>exact hb wh pins s1 σ H1 Q I1 q1
theorem bZ (ha:PT X a tA):PT X (.UnaryOp .Not a pos) (tNot tA):=by
 intro pins s σ H Q I h
 exact isTrue_not (ha pins s σ H (λc H1=>Q (!c) H1) I h)
def ra (ta tb:TE):TE:=λσ H Q=>ta σ H λx H1=>∃c,x = .bl c/\if c=true then tb σ H1 Q else Q (.bl false) H1
def rb (ta:TE):TE:=λσ H Q=>ta σ H λx H1=>∃c,x = .bl c/\Q (.bl (!c)) H1
theorem jh {op}{t:TE}(h:PE X a t):PE X (.BoolOp op [a] pos) t:=λpins s σ H Q I hw=>BoolOp_one (h pins s σ H Q I hw)
theorem ji (ha:PE X a ta)(hb:PE X (.BoolOp .And (b :: rest) pos) tb):PE X (.BoolOp .And (a :: b :: rest) pos) (ra ta tb):=by
 intro pins s σ H Q I h
 refine BoolOp_and (thn (ha pins s σ H _ I h) λv s1 ⟨x,H1,I1,r1,q1⟩ =>?_)
 obtain ⟨c,rfl,q1⟩:=q1
 cases r1
 refine uM ?_
 cases c with
 | true=>exact hb pins s1 σ H1 Q I1 q1
 | false=>exact ⟨.bl false,H1,I1,rfl,q1⟩
theorem pS (ha:PE X a ta):PE X (.UnaryOp .Not a pos) (rb ta):=by
 intro pins s σ H Q I h
 refine UnaryOp_ (thn (ha pins s σ H _ I h) λv s1 ⟨x,H1,I1,r1,q1⟩ =>?_)
 obtain ⟨c,rfl,q1⟩:=q1
 cases r1
 exact not_of (uM ⟨.bl (!c),H1,I1,rfl,q1⟩)
end
open PySem PySem.Spec PyProof.Rows
def SqL (K:sI)(H:Hp)(a:Addr)(xs:List V):Prop :=
 Rd H a (.lst xs) ∨
  ∃(o:Obj) (its:Array sJ) (n:Nat),K.lookup a=some o/\o.cls = .type "list" /\ o.dict=none/\o.data = .seq its n/\its.size<=sM/\Vals xs its.toList
def SqT (K:sI)(H:Hp)(a:Addr)(xs:List V):Prop :=
 Rd H a (.tup xs) ∨
  ∃(o:Obj) (its:Array sJ) (n:Nat),K.lookup a=some o/\o.cls = .type "tuple" /\ o.data = .seq its n/\its.size<=sM/\Vals xs its.toList
def absV:sJ->Option V
 | .none=>some .non
 | .bool b=>some (.bl b)
 | .int i _=>some (.int i)
 | .str x _=>some (.str x)
 | .bytes b _=>some (.byt b)
 | .float b _=>some (.flt b)
 | .ref a=>some (.ref a)
 | .type n=>some (.ty n)
 | _=>none
theorem RelV.abs {x:V}{u:sJ}(r:RelV x u):absV u=some x:=by
 cases x with
 | non=>cases r;rfl
 | bl _=>cases r;rfl
 | int _=>obtain ⟨t,rfl⟩:=r;rfl
 | str _=>obtain ⟨t,rfl⟩:=r;rfl
 | byt _=>obtain ⟨t,rfl⟩:=r;rfl
 | flt _=>obtain ⟨t,rfl⟩:=r;rfl
 | ref _=>cases r;rfl
 | ty _=>cases r;rfl
theorem RelV.inj {x y:V}{u:sJ}(r:RelV x u)(q:RelV y u):x=y:=tV (r.abs.symm.trans q.abs)
theorem Vals.inj:∀{xs ys:List V} {us:List sJ},Vals xs us->Vals ys us->xs=ys
 | _,_,_,.nil,.nil=>rfl
 | _,_,_,.cons r t,.cons r' t'=>by rw[r.inj r',Vals.inj t t']
section
variable  {X:Cx}{pins:List (Addr×Obj)}{σ:St}{H:Hp}{s:sL}{a:Addr}{xs ys:List V}
theorem SqL.of {K:sI}(h:H a=some (.lst xs)):SqL K H a xs :=.inl (.inl h)
theorem SqT.of {K:sI}(h:H a=some (.tup xs)):SqT K H a xs :=.inl (.inl h)
theorem Inv.list (I:Inv X pins σ H s)(h:SqL X.K H a xs):∃its:List sJ,Vals xs its/\PlainL s.heap a its.toArray/\xs.length<=sM:=by
 rcases h with h | ⟨o,its,n,hk,hc,hd,hs,hz,r⟩
 ·obtain ⟨z,its,n,r,e⟩:=h.ok I.hok
  exact ⟨its,r,⟨_,n,e,rfl,rfl,rfl⟩,z⟩
 ·refine ⟨its.toList,r,⟨o,n,I.kIn a o hk,hc,hd,by simpa using hs⟩,?_⟩
  have e:=r.length
  simp only[sU] at e
  omega
theorem Inv.tuple (I:Inv X pins σ H s)(h:SqT X.K H a xs):∃its:List sJ,Vals xs its/\IsTup s.heap a its.toArray/\xs.length<=sM:=by
 rcases h with h | ⟨o,its,n,hk,hc,hs,hz,r⟩
 ·obtain ⟨z,its,r,p⟩:=h.ok I.hok
  exact ⟨its,r,p.tup,z⟩
 ·refine ⟨its.toList,r,⟨o,I.kIn a o hk,hc,n,by simpa using hs⟩,?_⟩
  have e:=r.length
  simp only[sU] at e
  omega
theorem Inv.iL (I:Inv X pins σ H s)(h:SqL X.K H a xs)(h':SqL X.K H a ys):xs=ys:=by
 obtain ⟨its,r,⟨o,n,e,_,_,d⟩,_⟩:=I.list h
 obtain ⟨its',r',⟨o',n',e',_,_,d'⟩,_⟩:=I.list h'
 rw[e] at e';cases e'
 rw[d] at d'
 injection d' with d1 _
 have:its=its':=by simpa using congrArg Array.toList d1
 subst this
 exact r.inj r'
theorem Inv.kQ (I:Inv X pins σ H s)(h:SqT X.K H a xs)(h':SqT X.K H a ys):xs=ys:=by
 obtain ⟨its,r,⟨o,e,_,n,d⟩,_⟩:=I.tuple h
 obtain ⟨its',r',⟨o',e',_,n',d'⟩,_⟩:=I.tuple h'
 rw[e] at e';cases e'
 rw[d] at d'
 injection d' with d1 _
 have:its=its':=by simpa using congrArg Array.toList d1
 subst this
 exact r.inj r'
end
abbrev Cx.fv (X:Cx)(E:sJ->sL->Prop):Cx:={ X with xe:=E }
abbrev Cx.nox (X:Cx):Cx:=X.fv λ_ _=>False
theorem Cx.Ok.fv {X:Cx}(ok:X.Ok)(E:sJ->sL->Prop):(X.fv E).Ok :=
 ⟨ok.mod,ok.kind,ok.glob,ok.blt,ok.above,ok.inj,ok.has,ok.cab,ok.hd,ok.frames,ok.stk,ok.exf,ok.bs,ok.bsz,ok.noex,ok.exfs,ok.funs,ok.frf⟩
theorem Cx.Ok.cp {X:Cx}{E:sJ->sL->Prop}(ok:(X.fv E).Ok):X.Ok :=
 ⟨ok.mod,ok.kind,ok.glob,ok.blt,ok.above,ok.inj,ok.has,ok.cab,ok.hd,ok.frames,ok.stk,ok.exf,ok.bs,ok.bsz,ok.noex,ok.exfs,ok.funs,ok.frf⟩
section
variable  {X:Cx}{pins:List (Addr×Obj)}{σ:St}{H:Hp}{s:sL}{E:sJ->sL->Prop}
theorem Inv.fv (I:Inv X pins σ H s)(E:sJ->sL->Prop):Inv (X.fv E) pins σ H s:=⟨I.ok.fv E,I.os,I.bare,I.base,I.loc,I.cell,I.free,I.freeC,I.pin,I.hok,I.len⟩
theorem Inv.cp (I:Inv (X.fv E) pins σ H s):Inv X pins σ H s:=⟨I.ok.cp,I.os,I.bare,I.base,I.loc,I.cell,I.free,I.freeC,I.pin,I.hok,I.len⟩
theorem SP.cp {D:Ends}{f:Flow}{s':sL}(h:SP (X.fv E) pins D f s'):SP X pins D f s':=by
 cases f with
 | next=>obtain ⟨σ',H',I,q⟩:=h;exact ⟨σ',H',I.cp,q⟩
 | brk=>obtain ⟨σ',H',I,q⟩:=h;exact ⟨σ',H',I.cp,q⟩
 | cont=>obtain ⟨σ',H',I,q⟩:=h;exact ⟨σ',H',I.cp,q⟩
 | ret u=>obtain ⟨v,σ',H',I,r,q⟩:=h;exact ⟨v,σ',H',I.cp,r,q⟩
theorem PSs.nox {st:List Stmt}{t:TS}(h:PSs X.nox st t):PSs X st t:=λpins s σ H D I hw =>
 uw (h pins s σ H D (I.fv _) hw) (λ_ _ q=>q.cp) λ_ _ z=>False.elim z
end
section
variable  {X:Cx}{st:Stmt}{rest:List Stmt}{t u:TS}{e:Expr}{te:TE}{pos:Pos}
def rf:TS:=λD σ H=>D.nx σ H
def tSeq (t u:TS):TS:=λD σ H=>t { D with nx:=u D } σ H
theorem aW:PSs X [] rf:=λ_ _ σ H _ I h=>we ⟨σ,H,I,h⟩
theorem ak (h1:PS X st t)(h2:PSs X rest u):PSs X (st :: rest) (tSeq t u):=by
 intro pins s σ H D I h
 refine xP (thn (h1 pins s σ H { D with nx:=u D } I h) λf s1 q =>?_)
 cases f with
 | next =>
  obtain ⟨σ',H',I',q⟩:=q
  exact h2 pins s1 σ' H' D I' q
 | ret v=>exact q
 | brk=>exact q
 | cont=>exact q
theorem av (h1:PS X st t):PSs X [st] t:=by
 intro pins s σ H D I h
 refine xP (thn (h1 pins s σ H D I h) λf s1 q =>?_)
 cases f with
 | next=>exact we q
 | ret v=>exact q
 | brk=>exact q
 | cont=>exact q
theorem Inv.quiet {pins:List (Addr×Obj)}{σ:St}{H:Hp}{s:sL}(I:Inv X pins σ H s):interactive X.env=false:=by simp[interactive,I.ok.kind]
def rg (te:TE):TS:=λD σ H=>te σ H λ_ H1=>D.nx σ H1
theorem cV (he:PE X e te)(hs:swapsWith e none pos.line X.env=pure false:=by rfl):PS X (.Expr e pos) (rg te):=by
 intro pins s σ H D I h
 exact wpAny_Expr_any (thn (he pins s σ H _ I h) λv s1 ⟨x,H1,I1,r1,q1⟩=>⟨σ,H1,I1,q1⟩) I.quiet hs
def tRet (te:TE):TS:=λD σ H=>te σ H D.rt
theorem bu (he:PE X e te):PS X (.Return (some e) pos) (tRet te):=by
 intro pins s σ H D I h
 exact wpAny_Return_some (thn (he pins s σ H _ I h) λv s1 ⟨x,H1,I1,r1,q1⟩=>⟨x,σ,H1,I1,r1,q1⟩)
def tIfS (c:TT)(t u:TS):TS:=λD σ H=>c σ H λb H1=>if b=true then t D σ H1 else u D σ H1
theorem bK {c:Expr}{a b:List Stmt}{tc:TT}(hc:PT X c tc)(ha:PSs X a t)(hb:PSs X b u):PS X (.If c a b pos) (tIfS tc t u):=by
 intro pins s σ H D I h
 refine wpAny_If (thn (hc pins s σ H _ I h) λd s1 ⟨H1,I1,q1⟩ =>?_)
 cases d with
 | true=>exact ha pins s1 σ H1 D I1 q1
 | false=>exact hb pins s1 σ H1 D I1 q1
def pT:TS:=λ_ _ _=>False
theorem cW {sts:List Stmt}:PSs X sts pT:=λ_ _ _ _ _ _ h=>h.elim
end
abbrev TG:=V->St->Hp->(St->Hp->Prop)->Prop
abbrev TGs:=List V->St->Hp->(St->Hp->Prop)->Prop
def PG (X:Cx)(target:Expr)(t:TG):Prop :=
 ∀(pins:List (Addr×Obj)) (s:sL) (σ:St) (H:Hp) (v:V) (u:sJ) (Q:St->Hp->Prop),Inv X pins σ H s->RelV v u->t v σ H Q →
  tP (tN X.prog X.w) X.A (assign target X.env u) (λ_ s'=>∃σ' H',Inv X pins σ' H' s'/\Q σ' H') X.xe s
def PGs (X:Cx)(ts:List Expr)(t:TGs):Prop :=
 ∀(pins:List (Addr×Obj)) (s:sL) (σ:St) (H:Hp) (vs:List V) (us:List sJ) (Q:St->Hp->Prop),Inv X pins σ H s->Vals vs us->t vs σ H Q →
  tP (tN X.prog X.w) X.A (assignInOrder ((assignEach ts X.env).map (·.2)) us) (λ_ s'=>∃σ' H',Inv X pins σ' H' s'/\Q σ' H') X.xe s
abbrev pU:=V->V->V->Hp->(Hp->Prop)->Prop
def rh (X:Cx)(t:pU):Prop :=
 ∀(pins:List (Addr×Obj)) (s:sL) (σ:St) (H:Hp) (o i v:V) (ov iv u:sJ) (Q:Hp->Prop),Inv X pins σ H s->RelV o ov->RelV i iv->RelV v u->t o i v H Q →
  tP (tN X.prog X.w) X.A (setItem ov iv u) (λ_ s'=>∃H',Inv X pins σ H' s'/\Q H') X.xe s
section
variable  {X:Cx}{pos:Pos}
def lW (i:Nat):TG:=λv σ H Q=>Q (σ.set i (some v)) H
theorem bb {i:Nat}{x:Str}(hN:X.N.Nodup)(hi:X.N[i]? = some x)(hx:Loc X.env.scope x)(hf:X.fn x=true\/X.env.scope.names.lookup x=some .local:=by first | exact .inl rfl | exact .inr rfl | assumption):PG X (.Name x pos) (lW i):=by
 intro pins s σ H v u Q I r h
 exact wpAny_assign_Name (fu I hN hi hx r (λs' I'=>⟨_,H,I',h⟩) hf)
def gNil:TGs:=λvs σ H Q=>vs=[]/\Q σ H
def rj (t:TG)(u:TGs):TGs:=λvs σ H Q=>∃v r,vs=v :: r/\t v σ H λσ' H'=>u r σ' H' Q
theorem fc:PGs X [] gNil:=by
 intro pins s σ H vs us Q I r h
 obtain ⟨e,h⟩:=h
 subst e
 cases r
 exact assignInOrder_nil ⟨σ,H,I,h⟩
theorem bO {e:Expr}{es:List Expr}{t:TG}{u:TGs}(h1:PG X e t)(h2:PGs X es u)
  (hs:(assignEach (e :: es) X.env).map (·.2)=assign e X.env :: (assignEach es X.env).map (·.2):=by rfl):PGs X (e :: es) (rj t u):=by
 intro pins s σ H vs us Q I r h
 obtain ⟨v,vr,e1,h⟩:=h
 subst e1
 cases r with
 | cons r rr =>
  rw[hs]
  refine assignInOrder_cons (thn (h1 pins s σ H _ _ _ I r h) λ_ s1 ⟨σ1,H1,I1,q1⟩ =>?_)
  exact h2 pins s1 σ1 H1 _ _ Q I1 rr q1
def gTup (K:sI)(n:Nat)(t:TGs):TG:=λv σ H Q=>∃a xs,v = .ref a/\SqT K H a xs/\xs.length=n/\t xs σ H Q
theorem gO {es:List Expr}{k:Nat}{t:TGs}{n:Nat}(hc:X.calm=true)(h:PGs X es t)
  (hn:(assignEach es X.env).length=n:=by rfl) (hst:(assignEach es X.env).findIdx? (·.1)=none:=by rfl):PG X (.Tuple es k pos) (gTup X.K n t):=by
 intro pins s σ H v u Q I r hw
 obtain ⟨a,xs,e1,hq,hl,hw⟩:=hw
 subst e1
 cases r
 obtain ⟨its,rv,ht,hz⟩:=I.tuple hq
 refine assign_Tuple_tuple (I.ok.hd hc) ht (by simp[hn, <- hl,rv.length]) hst λh' hx =>?_
 have I1:Inv X pins σ H { s with heap:=h' }:=I.kept (t':=s.toks) λb o e=>hx b o (tW (sV e)) e
 exact h pins _ σ H xs _ Q I1 (by simpa using rv) hw
def gSub (to ti:TE)(t:pU):TG:=λv σ H Q=>to σ H λo H1=>ti σ H1 λi H2=>t o i v H2 λH3=>Q σ H3
theorem pV {o i:Expr}{to ti:TE}{t:pU}(ho:PE X o to)(hi:PE X i ti)(hs:rh X t)
    (ha:∀v,assign (.Subscript o i pos) X.env v=(do
      let ov ← zc [v] (eval o X.env)
      let iv ← zc [v,ov] (eval i X.env)
      standAt pos
      zc [v,ov,iv] (setItem ov iv v)
      release [v,ov,iv] []):=by intro _;rfl):PG X (.Subscript o i pos) (gSub to ti t):=by
  intro pins s σ H v u Q I r h
  rw[ha]
  refine sP (vC (thn (ho pins s σ H _ I h) λov s1 ⟨x,H1,I1,r1,q1⟩ =>?_))
  refine sP (vC (thn (hi pins s1 σ H1 _ I1 q1) λiv s2 ⟨y,H2,I2,r2,q2⟩ =>?_))
  refine sP (wI (sP (vC (thn (hs pins s2 σ H2 x y v ov iv u _ I2 r1 r2 r q2) λ_ s3 ⟨H3,I3,q3⟩ =>?_))))
  exact wpAny_release ⟨σ,H3,I3,q3⟩
def rn (te:TE)(g:TG):TS:=λD σ H=>te σ H λx H1=>g x σ H1 D.nx
theorem jj {tg e:Expr}{te:TE}{g:TG}(he:PE X e te)(hg:PG X tg g)(hs:swapsWithSole [tg] e pos.line X.env=pure false:=by rfl)(hw:swappedStores [tg] e X.env=pure none:=by rfl)
  (h1:(assignEach [tg] X.env).map (·.2)=[assign tg X.env]:=by rfl):PS X (.Assign [tg] e pos) (rn te g):=by
 intro pins s σ H D I h
 refine wpAny_Assign_stores (thn (he pins s σ H _ I h) λv s1 ⟨x,H1,I1,r1,q1⟩ =>?_) hs hw
 rw[h1]
 exact thn (hg pins s1 σ H1 x v _ I1 r1 q1) λ_ s2 q=>q
theorem aG {i:Nat}{x:Str}{e:Expr}{te:TE}{pos':Pos}(hN:X.N.Nodup)(hi:X.N[i]? = some x)(hx:Loc X.env.scope x)(he:PE X e te)(hs:swapsWith e (some (.Name x pos')) pos.line X.env=pure false:=by rfl)(hf:X.fn x=true\/X.env.scope.names.lookup x=some .local:=by first | exact .inl rfl | exact .inr rfl | assumption) :
  PS X (.Assign [.Name x pos'] e pos) (rn te (lW i)):=by
 intro pins s σ H D I h
 refine wpAny_Assign_Name (thn (he pins s σ H _ I h) λv s1 ⟨y,H1,I1,r1,q1⟩ =>?_) hs
 exact fu I1 hN hi hx r1 (λs2 I2=>⟨_,H1,I2,q1⟩) hf
end
section
variable  {X:Cx}{pos:Pos}
end
structure It where
 go:Nat->Hp->Prop
 yld:Nat->Hp->V->Hp->Prop
 stop:Nat->Hp->Prop
def fw (X:Cx)(pins:List (Addr×Obj))(H:Hp)(b:Addr):Prop :=
 H b=none/\b≠X.env.locals/\b∉X.fs/\(b∈X.ex\/X.s₀.heap.objs.size<=b)/\(∀x c,X.env.cells.lookup x=some c->c≠b)/\∀p∈X.pn++pins,p.1≠b
theorem Inv.pW {X:Cx}{pins:List (Addr×Obj)}{σ:St}{H H':Hp}{s:sL}{b:Addr}(I:Inv X pins σ H s)(hb:s.heap.objs.size<=b)(hn:H' b=none):fw X pins H' b:=by
 refine ⟨hn,xW (sT I.lt hb),I.pP hb,.inr (tM I.sz hb),λx c e z =>?_,λp hp z =>?_⟩
 ·obtain ⟨v,q⟩:=I.cell x c e
  exact absurd (sT q.lt (by rw[z];exact hb)) (ux _)
 ·exact absurd (sT (sV (I.pin p hp).1) (by rw[z];exact hb)) (ux _)
structure Turn (P:tj)(w:ud)(K:sI)(tg:Expr)(J:It)(fp:List Addr)(it:Addr)(tn:Nat->Heap->Prop):Prop where
 mem:it∈fp
 obj:∀i h,tn i h->∀b∈fp,∃o,h.get? b=some o/\∀v,o.data ≠ .cell v
 keep:∀i h h',tn i h->(∀b∈fp,∀o,h.get? b=some o->h'.get? b=some o)->tn i h'
 item:∀(X:Cx),X.prog=P->X.w=w->X.K=K->X.calm=true->∀(i:Nat) (pins:List (Addr×Obj)) (s:sL) (σ:St) (H:Hp) (E:sJ->sL->Prop),Inv X pins σ H s->(∀b∈fp,fw X pins H b)->tn i s.heap->J.go i H →
  tP (tN P w) X.A (pyNext (.ref it)) (λr s1=>∃u,r=some u ∧
   tP (tN P w) X.A (letOwnedTupleGo tg (.ref it) u) (λ_ s2=>∃x H',Inv X pins σ H' s2/\RelV x u/\J.yld i H x H'/\tn (i+1) s2.heap/\∀b∈fp,H' b=none) E s1) E s
 done:∀(X:Cx),X.prog=P->X.w=w->X.K=K->X.calm=true->∀(i:Nat) (pins:List (Addr×Obj)) (s:sL) (σ:St) (H:Hp) (E:sJ->sL->Prop),Inv X pins σ H s->(∀b∈fp,fw X pins H b)->tn i s.heap->J.stop i H →
  tP (tN P w) X.A (pyNext (.ref it)) (λr s1=>r=none/\Inv X pins σ H s1) E s
 self:∀(A:ue) (i:Nat) (s:sL) (Q:sJ->sL->Prop) (E:sJ->sL->Prop),tn i s.heap->Q (.ref it) s->tP (tN P w) A (pyIter (.ref it)) Q E s
abbrev TI:=St->Hp->(It->Hp->Prop)->Prop
def PIE (X:Cx)(pins:List (Addr×Obj))(σ:St)(tg:Expr)(R:It->Hp->Prop)(itv:sJ)(s2:sL):Prop :=
 ∃(it:Addr) (fp:List Addr) (tn:Nat->Heap->Prop) (J:It) (H':Hp),itv = .ref it/\Inv X pins σ H' s2/\Turn X.prog X.w X.K tg J fp it tn/\tn 0 s2.heap/\(∀b∈fp,fw X pins H' b)/\R J H'
def PI (X:Cx)(tg iter:Expr)(wi:TI):Prop :=
 ∀(pins:List (Addr×Obj)) (s:sL) (σ:St) (H:Hp) (R:It->Hp->Prop),Inv X pins σ H s->wi σ H R →
  tP (tN X.prog X.w) X.A (eval iter X.env) (λv s1=>tP (tN X.prog X.w) X.A (pyIter v) (PIE X pins σ tg R) X.xe s1) X.xe s
theorem o7 {M:Model}{A:ue}{E:sJ->sL->Prop}{s:sL}{tg:Expr}{it:Addr}{u:sJ}{o:Obj}{n:String}{vs:Array sJ}{Q:Unit->sL->Prop}(ho:s.heap.get? it=some o)(hc:o.cls = .type n)(hd:o.data = .fields vs)
    (hn:["enumerate", "zip", "dict_itemiterator", "dict_reverseitemiterator", "odict_iterator", "itertools.zip_longest", "itertools.pairwise"].contains n=false) (hQ:Q () s):tP M A (letOwnedTupleGo tg (.ref it) u) Q E s:=by
  unfold letOwnedTupleGo
  cases tg <;> first
    | exact tQ hQ
    | (cases u <;> first
        | exact tQ hQ
        | (refine sP (wpAny_load ho ?_)
           rw[hc,hd]
           show tP M A (if (["enumerate", "zip", "dict_itemiterator", "dict_reverseitemiterator", "odict_iterator", "itertools.zip_longest", "itertools.pairwise"].contains n && vs[0]? == some (zD _))=true then _ else _) Q E s
           rw[if_neg (by intro h;rw[hn,xo] at h;cases h)]
           exact tQ hQ))
def Itl (K:sI)(a:Addr):It :=
 ⟨λi H=>∃xs x,SqL K H a xs/\xs[i]? = some x,λi H x H'=>H'=H/\∀xs,SqL K H a xs->xs[i]? = some x,λi H=>∃xs,SqL K H a xs/\xs.length<=i⟩
def Itr (lo:Int)(n:Nat):It:=⟨λi _=>i<n,λi H x H'=>H'=H/\x = .int (lo+i),λi _=>n<=i⟩
theorem kR {P:tj}{w:ud}{K:sI}{tg:Expr}(a it:Addr):Turn P w K tg (Itl K a) [it] it (λi h=>h.IsListIter it a i) where
 mem:=by simp
 obj:=λi h st b hb=>by
  have e:b=it:=by simpa using hb
  subst e
  obtain ⟨o,e,c,d⟩:=st
  exact ⟨o,e,λv z=>by rw[d] at z;cases z⟩
 keep:=λi h h' st k=>st.at λo e=>k it (by simp) o e
 item:=by
  intro X hP hw hK hc i pins s σ H E I hf st hg
  subst hP hw hK
  obtain ⟨xs,x,hq,hx⟩:=hg
  obtain ⟨its,rv,p,hz⟩:=I.list hq
  obtain ⟨u,hu,ru⟩:=rv.get hx
  obtain ⟨f0,f1,f2,f3,f4,f5⟩:=hf it (by simp)
  refine wpAny_pyNext_list_item st p.isList (x:=u) (by simpa using hu) λh' st' sb =>?_
  have I1:Inv X pins σ H { s with heap:=h' }:=I.turned (t':=s.toks) (λb o hb e=>(sb.2 b hb).trans e) f0 f1 f3 f4 f5
  obtain ⟨o,e,c,d⟩:=id st'
  exact ⟨u,rfl,o7 (s:={ s with heap:=h' }) e c d (by decide) ⟨x,H,I1,ru,⟨rfl,λys hy=>by rw[I.iL hy hq];exact hx⟩,st',λb hb=>(hf b hb).1⟩⟩
 done:=by
  intro X hP hw hK hc i pins s σ H E I hf st hg
  subst hP hw hK
  obtain ⟨xs,hq,hx⟩:=hg
  obtain ⟨its,rv,p,hz⟩:=I.list hq
  obtain ⟨f0,f1,f2,f3,f4,f5⟩:=hf it (by simp)
  have hl:=rv.length
  exact wpAny_pyNext_list_end (I.ok.hd hc) st p.isList (by simp;omega) λh' eb=>⟨rfl,I.turned (t':=s.toks) (λb o hb e=>eb b o hb e) f0 f1 f3 f4 f5⟩
 self:=λ_ _ _ _ _ st h=>wpAny_pyIter_listiter st h
theorem jk {P:tj}{w:ud}{K:sI}{tg:Expr}(it:Addr)(lo:Int)(n:Nat):Turn P w K tg (Itr lo n) [it] it (λi h=>IsRangeIter h it (lo+(i:Nat)*1) ((n:Int)-(i:Nat)) 1) where
 mem:=by simp
 obj:=λi h st b hb=>by
  have e:b=it:=by simpa using hb
  subst e
  exact ⟨_,st,λv z=>by
   have z':Data.fields _=Data.cell v:=z
   cases z'⟩
 keep:=λi h h' st k=>k it (by simp) _ st
 item:=by
  intro X hP hw hK hc i pins s σ H E I hf st hg
  subst hP hw hK
  obtain ⟨f0,f1,f2,f3,f4,f5⟩:=hf it (by simp)
  have W:=Walks.range (prog:=X.prog) (w:=X.w) (I.ok.hd hc) it lo 1 n
  refine W.item i s _ _ hg st λv h' tk hv st' kk =>?_
  obtain ⟨t,rfl⟩:=hv
  have I1:Inv X pins σ H { s with heap:=h',toks:=tk }:=I.turned (λb o hb e=>kk b o (by simpa using hb) e) f0 f1 f3 f4 f5
  refine ⟨_,rfl,o7 (s:={ s with heap:=h',toks:=tk }) (n := "range_iterator") st' rfl rfl (by decide) ⟨.int (lo+i),H,I1,⟨t,?_⟩,⟨rfl,rfl⟩,st',λb hb=>(hf b hb).1⟩⟩
  rw[Int.mul_one]
 done:=by
  intro X hP hw hK hc i pins s σ H E I hf st hg
  subst hP hw hK
  obtain ⟨f0,f1,f2,f3,f4,f5⟩:=hf it (by simp)
  exact wpAny_pyNext_range_end (I.ok.hd hc) st (by have:n<=i:=hg;omega) λh' eb=>⟨rfl,I.turned (t':=s.toks) (λb o hb e=>eb b o hb e) f0 f1 f3 f4 f5⟩
 self:=λ_ _ _ _ _ st h=>wpAny_pyIter_rangeiter st h
open PySem PySem.Spec PyProof.Rows
section
variable  {X:Cx}{tg:Expr}
def rq (K:sI)(tl:TE):TI:=λσ H R=>tl σ H λx H1=>∃a,x = .ref a/\(∃xs,SqL K H1 a xs)/\R (Itl K a) H1
theorem dG {l:Expr}{tl:TE}(hl:PE X l tl):PI X tg l (rq X.K tl):=by
 intro pins s σ H R I h
 refine thn (hl pins s σ H _ I h) λv s1 ⟨x,H1,I1,r1,q1⟩ =>?_
 obtain ⟨a,e,⟨xs,hq⟩,q⟩:=q1
 subst e
 cases r1
 obtain ⟨its,rv,p,hz⟩:=I1.list hq
 refine wpAny_pyIter_list p.isList ?_
 refine ⟨s1.heap.objs.size,[s1.heap.objs.size],_,_,H1,rfl,I1.kept (t':=s1.toks) λb o e=>sN _ e,kR a _,⟨_,tR _ rfl,rfl,rfl⟩,λb hb =>?_,q⟩
 have e:b=s1.heap.objs.size:=by simpa using hb
 subst e
 exact I1.pW (sS _) (I1.hok.fresh (sS _))
theorem lX {pins:List (Addr×Obj)}{σ:St}{H:Hp}{s:sL}{R:It->Hp->Prop}{E:sJ->sL->Prop}{lo hi:Int}{t u v:Tok}{tk:Nat}(I:Inv X pins σ H s)(h1 : -(2 ^ 62)<=lo)(h2:lo<2 ^ 62)(h3 : -(2 ^ 62)<=hi)(h4:hi<2 ^ 62)
  (q:R (Itr lo (hi-lo).toNat) H):tP (tN X.prog X.w) X.A (pyIter (.ref s.heap.objs.size)) (PIE X pins σ tg R) E { s with heap:=s.heap.push { cls :=.type "range",data :=.fields #[.int lo t,.int hi u,.int 1 v] },toks:=tk }:=by
 refine wpAny_pyIter_range (IsRange.new ..) (small_one h1 h2 h3 h4) ?_
 have I1:Inv X pins σ H { s with heap:=s.heap.push { cls :=.type "range",data :=.fields #[.int lo t,.int hi u,.int 1 v] },toks:=tk }:=I.kept λb o e=>sN _ e
 refine ⟨(s.heap.push { cls :=.type "range",data :=.fields #[.int lo t,.int hi u,.int 1 v] }).objs.size,[(s.heap.push { cls :=.type "range",data :=.fields #[.int lo t,.int hi u,.int 1 v] }).objs.size],_,_,H,rfl,
  I1.kept (t':=tk) λb o e=>sN _ e,jk _ lo (hi-lo).toNat,?_,λb hb =>?_,q⟩
 ·have e1:lo+((0:Nat):Int)*1=lo:=by simp
  have e2:(((hi-lo).toNat:Nat):Int)-((0:Nat):Int)=Builtin.Range.rangeSize lo hi 1:=by rw[rangeSize_one];split <;> omega
  show IsRangeIter _ _ (lo+((0:Nat):Int)*1) ((((hi-lo).toNat:Nat):Int)-((0:Nat):Int)) 1
  rw[e1,e2]
  exact tR _ rfl
 ·have e:b=(s.heap.push { cls :=.type "range",data :=.fields #[.int lo t,.int hi u,.int 1 v] }).objs.size:=by simpa using hb
  subst e
  exact I1.pW (sS _) (I1.hok.fresh (sS _))
def rA (ta:TA):TI:=λσ H R=>ta σ H λvs H1=>∃j:Int,vs=[.int j] /\ -(2 ^ 62)<=j/\j<2 ^ 62/\R (Itr 0 j.toNat) H1
theorem d7 {a:Expr}{ta:TA}{p pos:Pos}(hg:Gl X "range")(hm:X.mg "range" = none)(ha:PA X [a] ta)(hs:tU [a] X.env=[(false,eval a X.env)]:=by rfl):PI X tg (.Call (.Name "range" p) [a] [] pos) (rA ta):=by
 intro pins s σ H R I h
 refine Call_ (dY I hg hm boot_range (vJ (thn (ha pos pins s σ H _ I h) λus s1 ⟨vs,H1,I1,r1,q1⟩ =>?_) hs rfl))
 obtain ⟨j,e,q1,q2,q⟩:=q1
 subst e
 cases r1 with
 | cons r rr =>
  cases rr
  obtain ⟨t,rfl⟩:=r
  exact call_range_1 (lX I1 (by omega) (by omega) q1 q2 (by simpa using q))
def tFor (wi:TI)(g:TG)(tb:TS):TS:=λD σ H=>wi σ H λJ H1=>∃W:Nat->Nat->St->Hp->Prop,(∃m,W 0 m σ H1)/\∀i m σ H,W i m σ H →
 (J.stop i H/\D.nx σ H)\/(J.go i H/\∃N:St->Hp->Prop,(∀σ' H',N σ' H'->∃m',m'<m/\W (i+1) m' σ' H')/\∀x H',J.yld i H x H'->g x σ H' λσ2 H2=>tb { D with nx:=N,ct:=N,bk:=D.nx } σ2 H2)
def dq (fp:List Addr)(h:Heap):List (Addr×Obj):=fp.filterMap λb=>(h.get? b).map λo=>(b,o)
theorem b7 {fp:List Addr}{h:Heap}{b:Addr}{o:Obj}(hb:b∈fp)(e:h.get? b=some o):(b,o)∈dq fp h:=v9.mpr ⟨b,hb,by rw[e];rfl⟩
theorem gi {fp:List Addr}{h:Heap}{p:Addr×Obj}(hp:p∈dq fp h):p.1∈fp/\h.get? p.1=some p.2:=by
 obtain ⟨b,hb,e⟩:=v9.mp hp
 cases q:h.get? b with
 | none=>rw[q] at e;cases e
 | some o =>
  rw[q] at e
  have e':(b,o)=p:=tV e
  subst e'
  exact ⟨hb,q⟩
theorem Inv.pinned {pins:List (Addr×Obj)}{σ:St}{H:Hp}{s:sL}{fp:List Addr}(I:Inv X pins σ H s)(hf:∀b∈fp,fw X pins H b)(ho:∀b∈fp,∃o,s.heap.get? b=some o/\∀v,o.data ≠ .cell v):Inv X (pins++dq fp s.heap) σ H s :=
 I.dE λp hp=>(tO.mp hp).elim (λz=>I.pin p (t4 _ z)) λz=>by
  obtain ⟨hb,e⟩:=gi z
  obtain ⟨f0,f1,f2,_⟩:=hf p.1 hb
  obtain ⟨o,e',d⟩:=ho p.1 hb
  rw[e] at e';cases e'
  exact ⟨e,f0,f1,f2,d⟩
theorem Inv.cO {pins pl:List (Addr×Obj)}{σ:St}{H:Hp}{s:sL}(I:Inv X (pins++pl) σ H s):Inv X pins σ H s:=I.dE λp hp=>I.pin p (t4 _ (yg _ hp))
theorem cP {iter:Expr}{body:List Stmt}{wi:TI}{g:TG}{tb:TS}{pos:Pos}(hp:PassesOwn (tN X.prog X.w) X.A X.env X.xe)(hc:X.calm=true)(hi:PI X tg iter wi)(hg:PG X tg g)(hb:PSs X body tb)
  (hs:∀x,foldedSetIterable iter X.env x=pure x:=by intro _;rfl):PS X (.For tg iter body [] pos) (tFor wi g tb):=by
 intro pins s σ H D I h
 refine wpAny_For (thn (hi pins s σ H _ I h) λv s1 h1=>thn h1 λitv s2 h2 =>?_) hs
 obtain ⟨it,fp,tn,J,H2,e,I2,T,st2,f2,W,⟨m0,w0⟩,turn⟩:=h2
 subst e
 have stat:∀{H':Hp},(∀b∈fp,H' b=none)->∀b∈fp,fw X pins H' b:=λhn b hb=>⟨hn b hb,(f2 b hb).2⟩
 refine codeAny_forLoop_any (λn s'=>∃i σ' H',Inv X pins σ' H' s'/\tn i s'.heap/\(∀b∈fp,H' b=none)/\W i n σ' H') ?_ m0 ⟨0,σ,H2,I2,st2,λb hb=>(f2 b hb).1,w0⟩
 rintro n s3 ⟨i,σ3,H3,I3,st3,fr3,w3⟩
 rcases turn i n σ3 H3 w3 with ⟨stop,qn⟩ | ⟨go,N,hN,step⟩
 ·refine wg hp (thn (T.done X rfl rfl rfl hc i pins s3 σ3 H3 X.xe I3 (stat fr3) st3 stop) λr s4 ⟨hr,I4⟩ =>?_)
  subst hr
  exact we ⟨σ3,H3,I4,qn⟩
 ·refine wg hp (thn (T.item X rfl rfl rfl hc i pins s3 σ3 H3 X.xe I3 (stat fr3) st3 go) λr s4 ⟨u,hr,h4⟩ =>?_)
  subst hr
  refine wg hp (thn h4 λ_ s5 ⟨x,H5,I5,r5,y5,st5,fr5⟩ =>?_)
  have I5':=I5.pinned (stat fr5) (T.obj _ _ st5)
  refine wg hp (thn (hg _ s5 σ3 H5 x u _ I5' r5 (step x H5 y5)) λ_ s6 ⟨σ6,H6,I6,q6⟩ =>?_)
  refine wg hp (thn (hb _ s6 σ6 H6 _ I6 q6) λf s7 q7 =>?_)
  have again:∀{σ7:St} {H7:Hp},Inv X (pins++dq fp s5.heap) σ7 H7 s7->N σ7 H7->∃m,m<n/\∃i σ' H',Inv X pins σ' H' s7/\tn i s7.heap/\(∀b∈fp,H' b=none)/\W i m σ' H':=λ{σ7 H7} I7 n7=>by
   obtain ⟨m',hm,w7⟩:=hN σ7 H7 n7
   refine ⟨m',hm,i+1,σ7,H7,I7.cO,T.keep _ _ _ st5 λb hb o e=>(I7.pin (b,o) (t4 _ (t4 _ (b7 hb e)))).1,λb hb =>?_,w7⟩
   obtain ⟨o,e,d⟩:=T.obj _ _ st5 b hb
   exact (I7.pin (b,o) (t4 _ (t4 _ (b7 hb e)))).2.1
  cases f with
  | next=>obtain ⟨σ7,H7,I7,n7⟩:=q7;exact again I7 n7
  | cont=>obtain ⟨σ7,H7,I7,n7⟩:=q7;exact again I7 n7
  | brk=>obtain ⟨σ7,H7,I7,q7⟩:=q7;exact ⟨σ7,H7,I7.cO,q7⟩
  | ret v=>obtain ⟨x7,σ7,H7,I7,r7,q7⟩:=q7;exact ⟨x7,σ7,H7,I7.cO,r7,q7⟩
end
theorem bz {K:sI}{a:Addr}{xs:List V}{g:TG}{tb:TS}{D:Ends}{σ:St}{H:Hp}(Pv:Nat->St->Hp->Prop)(h0:Pv 0 σ H)(hl:∀i σ H,i<=xs.length->Pv i σ H->SqL K H a xs)
  (hs:∀i x σ H,xs[i]? = some x->Pv i σ H->g x σ H λσ2 H2=>tb { D with nx:=Pv (i+1),ct:=Pv (i+1),bk:=D.nx } σ2 H2) (hd:∀σ H,Pv xs.length σ H->D.nx σ H) :
  ∃W:Nat->Nat->St->Hp->Prop,(∃m,W 0 m σ H)/\∀i m σ H,W i m σ H →
   ((Itl K a).stop i H/\D.nx σ H)\/((Itl K a).go i H/\∃N:St->Hp->Prop,(∀σ' H',N σ' H'->∃m',m'<m/\W (i+1) m' σ' H')/\∀x H',(Itl K a).yld i H x H'->g x σ H' λσ2 H2=>tb { D with nx:=N,ct:=N,bk:=D.nx } σ2 H2):=by
 refine ⟨λi m σ H=>m=xs.length-i/\i<=xs.length/\Pv i σ H,⟨xs.length,by simp,uz _,h0⟩,?_⟩
 rintro i m σ H ⟨rfl,hi,p⟩
 have q:=hl i σ H hi p
 by_cases hlt:i<xs.length
 ·refine .inr ⟨⟨xs,xs[i],q,by simp[hlt]⟩,Pv (i+1),λσ' H' p'=>⟨xs.length-(i+1),by omega,rfl,hlt,p'⟩,λx H' y =>?_⟩
  obtain ⟨e,y⟩:=y
  subst e
  exact hs i x σ _ (y xs q) p
 ·have e:i=xs.length:=by omega
  subst e
  exact .inl ⟨⟨xs,q,sS _⟩,hd σ H p⟩
theorem d8 {lo:Int}{n:Nat}{g:TG}{tb:TS}{D:Ends}{σ:St}{H:Hp}(Pv:Nat->St->Hp->Prop)(h0:Pv 0 σ H)
  (hs:∀i σ H,i<n->Pv i σ H->g (.int (lo+i)) σ H λσ2 H2=>tb { D with nx:=Pv (i+1),ct:=Pv (i+1),bk:=D.nx } σ2 H2) (hd:∀σ H,Pv n σ H->D.nx σ H) :
  ∃W:Nat->Nat->St->Hp->Prop,(∃m,W 0 m σ H)/\∀i m σ H,W i m σ H →
   ((Itr lo n).stop i H/\D.nx σ H)\/((Itr lo n).go i H/\∃N:St->Hp->Prop,(∀σ' H',N σ' H'->∃m',m'<m/\W (i+1) m' σ' H')/\∀x H',(Itr lo n).yld i H x H'->g x σ H' λσ2 H2=>tb { D with nx:=N,ct:=N,bk:=D.nx } σ2 H2):=by
 refine ⟨λi m σ H=>m=n-i/\i<=n/\Pv i σ H,⟨n,by simp,uz _,h0⟩,?_⟩
 rintro i m σ H ⟨rfl,hi,p⟩
 by_cases hlt:i<n
 ·refine .inr ⟨hlt,Pv (i+1),λσ' H' p'=>⟨n-(i+1),by omega,rfl,hlt,p'⟩,λx H' y =>?_⟩
  obtain ⟨e,y⟩:=y
  subst e y
  exact hs i σ _ hlt p
 ·have e:i=n:=by omega
  subst e
  exact .inl ⟨sS _,hd σ H p⟩
open PySem PySem.Spec PyProof.Rows
abbrev R2:=V->V->Hp->VK->Prop
def OpR (X:Cx)(f:sJ->sJ->Sem sJ)(r:R2):Prop :=
 ∀(pins:List (Addr×Obj)) (s:sL) (σ:St) (H:Hp) (x y:V) (v u:sJ) (Q:VK),Inv X pins σ H s->RelV x v->RelV y u->r x y H Q →
  tP (tN X.prog X.w) X.A (f v u) (EP X pins σ Q) X.xe s
def UnR (X:Cx)(f:sJ->Sem sJ)(r:V->Hp->VK->Prop):Prop :=
 ∀(pins:List (Addr×Obj)) (s:sL) (σ:St) (H:Hp) (x:V) (v:sJ) (Q:VK),Inv X pins σ H s->RelV x v->r x H Q →
  tP (tN X.prog X.w) X.A (f v) (EP X pins σ Q) X.xe s
def bS (X:Cx)(f:sJ)(r:List V->Hp->VK->Prop):Prop :=
 ∀(pins:List (Addr×Obj)) (s:sL) (σ:St) (H:Hp) (xs:List V) (us:List sJ) (Q:VK),Inv X pins σ H s->Vals xs us->r xs H Q →
  tP (tN X.prog X.w) X.A (call f us) (EP X pins σ Q) X.xe s
def tOp (r:R2)(ta tb:TE):TE:=λσ H Q=>ta σ H λx H1=>tb σ H1 λy H2=>r x y H2 Q
def tUn (r:V->Hp->VK->Prop)(ta:TE):TE:=λσ H Q=>ta σ H λx H1=>r x H1 Q
def rI (C:Int->Int->Prop)(g:Int->Int->V):R2:=λx y H Q=>∃i j,x = .int i/\y = .int j/\C i j/\Q (g i j) H
def rI0 (g:Int->Int->V):R2:=λx y H Q=>∃i j,x = .int i/\y = .int j/\Q (g i j) H
def rU (g:Int->V):V->Hp->VK->Prop:=λx H Q=>∃i,x = .int i/\Q (g i) H
section
variable  {X:Cx}{a b c:Expr}{ta tb tc:TE}{pos:Pos}
theorem pX (ha:PE X a ta)(hb:PE X b tb){pins:List (Addr×Obj)}{s:sL}{σ:St}{H:Hp}{R:V->V->Hp->Prop}(I:Inv X pins σ H s)
  (h:ta σ H λx H1=>tb σ H1 λy H2=>R x y H2) {Q:sJ->sL->Prop} {f:sJ->sJ->Sem sJ}
  (hf:∀v u s2 x y H2,Inv X pins σ H2 s2->RelV x v->RelV y u->R x y H2->tP (tN X.prog X.w) X.A (f v u) Q X.xe s2) :
  tP (tN X.prog X.w) X.A (eval a X.env) (λv s₁=>tP (tN X.prog X.w) X.A (eval b X.env) (λu s₂=>tP (tN X.prog X.w) X.A (f v u) Q X.xe s₂) X.xe s₁) X.xe s:=by
 refine thn (ha pins s σ H _ I h) λv s1 ⟨x,H1,I1,r1,q1⟩ =>?_
 refine thn (hb pins s1 σ H1 _ I1 q1) λu s2 ⟨y,H2,I2,r2,q2⟩ =>?_
 exact hf v u s2 x y H2 I2 r1 r2 q2
theorem aM {op:Operator}{r:R2}(ho:OpR X (binaryOp op) r)(ha:PE X a ta)(hb:PE X b tb):PE X (.BinOp a op b pos) (tOp r ta tb):=by
 intro pins s σ H Q I h
 exact wpAny_BinOp (pX ha hb I h λv u s2 x y H2 I2 rx ry q=>ho pins s2 σ H2 x y v u Q I2 rx ry q)
theorem gj {op:UnaryOp}{r:V->Hp->VK->Prop}(ho:UnR X (unaryOp op) r)(ha:PE X a ta):PE X (.UnaryOp op a pos) (tUn r ta):=by
 intro pins s σ H Q I h
 exact UnaryOp_ (thn (ha pins s σ H _ I h) λv s1 ⟨x,H1,I1,r1,q1⟩=>ho pins s1 σ H1 x v Q I1 r1 q1)
theorem opI {f:sJ->sJ->Sem sJ}{C:Int->Int->Prop}{g:Int->Int->Int}
  (rule:∀(i j:Int) (t u:Tok) (s:sL) (Q:sJ->sL->Prop) (E:sJ->sL->Prop),C i j->Q (.int (g i j) s.toks) { s with toks:=s.toks+1 }->tP (tN X.prog X.w) X.A (f (.int i t) (.int j u)) Q E s) :
  OpR X f (rI C λi j =>.int (g i j)):=by
 intro pins s σ H x y v u Q I rx ry h
 obtain ⟨i,j,rfl,rfl,hc,q⟩:=h
 obtain ⟨t,rfl⟩:=rx
 obtain ⟨t',rfl⟩:=ry
 exact rule i j t t' s _ _ hc ⟨.int (g i j),H,I.tok _,⟨_,rfl⟩,q⟩
theorem rB {f:sJ->sJ->Sem sJ}{g:Int->Int->Int}
  (rule:∀(i j:Int) (t u:Tok) (s:sL) (Q:sJ->sL->Prop) (E:sJ->sL->Prop),Q (.int (g i j) s.toks) { s with toks:=s.toks+1 }->tP (tN X.prog X.w) X.A (f (.int i t) (.int j u)) Q E s) :
  OpR X f (rI0 λi j =>.int (g i j)):=by
 intro pins s σ H x y v u Q I rx ry h
 obtain ⟨i,j,rfl,rfl,q⟩:=h
 obtain ⟨t,rfl⟩:=rx
 obtain ⟨t',rfl⟩:=ry
 exact rule i j t t' s _ _ ⟨.int (g i j),H,I.tok _,⟨_,rfl⟩,q⟩
theorem nP {f:sJ->sJ->Sem sJ}{g:Int->Int->Bool}
  (rule:∀(i j:Int) (t u:Tok) (s:sL) (Q:sJ->sL->Prop) (E:sJ->sL->Prop),Q (.bool (g i j)) s->tP (tN X.prog X.w) X.A (f (.int i t) (.int j u)) Q E s) :
  OpR X f (rI0 λi j =>.bl (g i j)):=by
 intro pins s σ H x y v u Q I rx ry h
 obtain ⟨i,j,rfl,rfl,q⟩:=h
 obtain ⟨t,rfl⟩:=rx
 obtain ⟨t',rfl⟩:=ry
 exact rule i j t t' s _ _ ⟨.bl (g i j),H,I,rfl,q⟩
def CDiv (i j:Int):Prop:=0<j/\j<1073741824
def CPow (i j:Int):Prop:=0<=j/\j<=1000000/\i.natAbs<2 ^ 64
def pY (i j:Int):Prop:=(-(2 ^ 64)<i/\i<2 ^ 64)\/(-(2 ^ 64)<j/\j<2 ^ 64)
theorem pY.ok {i j:Int}(h:pY i j):IntMulOk i j:=by
 rcases h with ⟨h1,h2⟩ | ⟨h1,h2⟩
 ·exact .of_left (intBits_le_64 h1 h2)
 ·exact .of_right (intBits_le_64 h1 h2)
theorem bQ:OpR X (binaryOp .Add) (rI0 λi j =>.int (i+j)):=rB λ_ _ _ _ _ _ _ q=>add_int q
theorem fx:OpR X (binaryOp .Sub) (rI0 λi j =>.int (i-j)):=rB λ_ _ _ _ _ _ _ q=>sub_int q
theorem du:OpR X (binaryOp .Mult) (rI pY λi j =>.int (i*j)):=opI λ_ _ _ _ _ _ _ hc q=>mul_int q hc.ok
theorem nQ:OpR X (binaryOp .FloorDiv) (rI CDiv λi j =>.int (i/j)):=opI λi j _ _ _ _ _ hc q=>by
 have h1:(0:Int)<j:=hc.1
 have h2:j<1073741824:=hc.2
 exact floordiv_int (by omega) (by rw[w4 i (by omega)];exact q) (.inl (PyProof.noPylong_small (by omega)))
theorem fy:OpR X (binaryOp .Mod) (rI (λ_ j=>0<j) λi j =>.int (i%j)):=opI λi j _ _ _ _ _ hc q=>by
 have h1:(0:Int)<j:=hc
 exact mod_int' (by omega) (by rw[w5 i (by omega)];exact q)
theorem gP:OpR X (binaryOp .Pow) (rI CPow λi j =>.int (i ^ j.toNat)):=opI λ_ _ _ _ _ _ _ hc q=>pow_int_small hc.1 hc.2.1 hc.2.2 q
theorem unI {f:sJ->Sem sJ}{g:Int->Int}
  (rule:∀(i:Int) (t:Tok) (s:sL) (Q:sJ->sL->Prop) (E:sJ->sL->Prop),Q (.int (g i) s.toks) { s with toks:=s.toks+1 }->tP (tN X.prog X.w) X.A (f (.int i t)) Q E s) :
  UnR X f (rU λi =>.int (g i)):=by
 intro pins s σ H x v Q I rx h
 obtain ⟨i,rfl,q⟩:=h
 obtain ⟨t,rfl⟩:=rx
 exact rule i t s _ _ ⟨.int (g i),H,I.tok _,⟨_,rfl⟩,q⟩
theorem d9:UnR X (unaryOp .USub) (rU λi =>.int (-i)):=unI λ_ _ _ _ _ q=>neg_int q
end
def rC:V->V->Bool
 | .non,.non=>true | .non,.int _=>true | .int _,.non=>true | .non,.bl _=>true | .bl _,.non=>true | .non,.str _=>true | .str _,.non=>true
 | .int _,.int _=>true | .bl _,.bl _=>true | .str _,.str _=>true | .byt _,.byt _=>true
 | .int _,.str _=>true | .str _,.int _=>true | .bl _,.str _=>true | .str _,.bl _=>true
 | _,_=>false
def rEq:R2:=λx y H Q=>rC x y=true/\Q (.bl (decide (x=y))) H
def rNe:R2:=λx y H Q=>rC x y=true/\Q (.bl (!decide (x=y))) H
theorem jN {i j:Int}:decide (V.int i=V.int j)=(i == j):=by
 rw[wa]
 simp
theorem lY {i j:Bool}:decide (V.bl i=V.bl j)=(i == j):=by
 rw[wa]
 simp
theorem jO {i j:Str}:decide (V.str i=V.str j)=(i == j):=by
 rw[wa]
 simp
theorem jP {i j:Array UInt8}:decide (V.byt i=V.byt j)=(i.toList == j.toList):=by
 rw[wa]
 cases i
 cases j
 simp
section
variable  {X:Cx}{a b c:Expr}{ta tb tc:TE}{pos:Pos}
theorem aJ {pins:List (Addr×Obj)}{σ:St}{H:Hp}{s:sL}{Q:VK}{k k':Bool}(I:Inv X pins σ H s)(q:Q (.bl k) H)(e:k=k'):EP X pins σ Q (.bool k') s:=by
 subst e
 exact ⟨.bl k,H,I,rfl,q⟩
theorem jQ:OpR X (uW .Eq) rEq:=by
 intro pins s σ H x y v u Q I rx ry h
 obtain ⟨hs,q⟩:=h
 cases x with
 | non =>
  cases rx
  cases y with
  | non=>cases ry;exact PySem.EqNone.eq_none_none (aJ I q (by simp))
  | bl j=>cases ry;exact PySem.EqNone.eq_none_bool (aJ I q (by simp))
  | int j=>obtain ⟨t',rfl⟩:=ry;exact PySem.EqNone.eq_none_int (aJ I q (by simp))
  | str j=>obtain ⟨t',rfl⟩:=ry;exact PySem.EqNone.eq_none_str (aJ I q (by simp))
  | _=>exact absurd (show false=true from hs) tL
 | bl i =>
  cases rx
  cases y with
  | non=>cases ry;exact PySem.EqNone.eq_bool_none (aJ I q (by simp))
  | bl j=>cases ry;exact eq_bool (aJ I q lY)
  | str j=>obtain ⟨t',rfl⟩:=ry;exact zd (aJ I q (by simp))
  | _=>exact absurd (show false=true from hs) tL
 | int i =>
  obtain ⟨t,rfl⟩:=rx
  cases y with
  | non=>cases ry;exact PySem.EqNone.eq_int_none (aJ I q (by simp))
  | int j=>obtain ⟨t',rfl⟩:=ry;exact eq_int (aJ I q jN)
  | str j=>obtain ⟨t',rfl⟩:=ry;exact zq (aJ I q (by simp))
  | _=>exact absurd (show false=true from hs) tL
 | str i =>
  obtain ⟨t,rfl⟩:=rx
  cases y with
  | non=>cases ry;exact PySem.EqNone.eq_str_none (aJ I q (by simp))
  | bl j=>cases ry;exact ze (aJ I q (by simp))
  | int j=>obtain ⟨t',rfl⟩:=ry;exact zr (aJ I q (by simp))
  | str j=>obtain ⟨t',rfl⟩:=ry;exact eq_str (aJ I q jO)
  | _=>exact absurd (show false=true from hs) tL
 | byt i =>
  obtain ⟨t,rfl⟩:=rx
  cases y with
  | byt j=>obtain ⟨t',rfl⟩:=ry;exact PySem.W.eq_bytes (aJ I q jP)
  | _=>exact absurd (show false=true from hs) tL
 | _=>cases y <;> exact absurd (show false=true from hs) tL
theorem lZ:OpR X (uW .NotEq) rNe:=by
 intro pins s σ H x y v u Q I rx ry h
 obtain ⟨hs,q⟩:=h
 cases x with
 | non =>
  cases rx
  cases y with
  | non=>cases ry;exact PySem.EqNone.ne_none_none (aJ I q (by simp))
  | bl j=>cases ry;exact PySem.EqNone.ne_none_bool (aJ I q (by simp))
  | int j=>obtain ⟨t',rfl⟩:=ry;exact PySem.EqNone.ne_none_int (aJ I q (by simp))
  | str j=>obtain ⟨t',rfl⟩:=ry;exact PySem.EqNone.ne_none_str (aJ I q (by simp))
  | _=>exact absurd (show false=true from hs) tL
 | bl i =>
  cases rx
  cases y with
  | non=>cases ry;exact PySem.EqNone.ne_bool_none (aJ I q (by simp))
  | bl j=>cases ry;exact ne_bool (aJ I q (congrArg not lY))
  | str j=>obtain ⟨t',rfl⟩:=ry;exact zf (aJ I q (by simp))
  | _=>exact absurd (show false=true from hs) tL
 | int i =>
  obtain ⟨t,rfl⟩:=rx
  cases y with
  | non=>cases ry;exact PySem.EqNone.ne_int_none (aJ I q (by simp))
  | int j=>obtain ⟨t',rfl⟩:=ry;exact ne_int (aJ I q (congrArg not jN))
  | str j=>obtain ⟨t',rfl⟩:=ry;exact zt (aJ I q (by simp))
  | _=>exact absurd (show false=true from hs) tL
 | str i =>
  obtain ⟨t,rfl⟩:=rx
  cases y with
  | non=>cases ry;exact PySem.EqNone.ne_str_none (aJ I q (by simp))
  | bl j=>cases ry;exact zg (aJ I q (by simp))
  | int j=>obtain ⟨t',rfl⟩:=ry;exact zu (aJ I q (by simp))
  | str j=>obtain ⟨t',rfl⟩:=ry;exact ne_str (aJ I q (congrArg not jO))
  | _=>exact absurd (show false=true from hs) tL
 | byt i =>
  obtain ⟨t,rfl⟩:=rx
  cases y with
  | byt j=>obtain ⟨t',rfl⟩:=ry;exact PySem.W.ne_bytes (aJ I q (congrArg not jP))
  | _=>exact absurd (show false=true from hs) tL
 | _=>cases y <;> exact absurd (show false=true from hs) tL
theorem rE:OpR X (uW .Lt) (rI0 λi j =>.bl (decide (i<j))):=nP λ_ _ _ _ _ _ _ q=>lt_int q
theorem l4:OpR X (uW .LtE) (rI0 λi j =>.bl (decide (i<=j))):=nP λ_ _ _ _ _ _ _ q=>le_int q
theorem jR:OpR X (uW .Gt) (rI0 λi j =>.bl (decide (j<i))):=nP λ_ _ _ _ _ _ _ q=>gt_int q
theorem rF:OpR X (uW .GtE) (rI0 λi j =>.bl (decide (j<=i))):=nP λ_ _ _ _ _ _ _ q=>ge_int q
theorem jS:OpR X (uW .IsNot) (λx y H Q=>y = .non/\Q (.bl (!decide (x = .non))) H):=by
 intro pins s σ H x y v u Q I rx ry h
 obtain ⟨rfl,q⟩:=h
 cases ry
 refine isnot_none_gen (aJ I q ?_)
 cases x <;> first
  | (cases rx;rfl)
  | (obtain ⟨t,rfl⟩:=rx;rfl)
theorem bp (b:Expr){op:CmpOp}(h:op ≠ .In:=by decide)(h2:op ≠ .NotIn:=by decide):behindInMarks op b=false:=by
 have e1:(op == CmpOp.In)=false:=by cases op <;> first | rfl | exact absurd rfl h
 have e2:(op == CmpOp.NotIn)=false:=by cases op <;> first | rfl | exact absurd rfl h2
 cases b <;> simp[behindInMarks,e1,e2]
theorem fe {op:CmpOp}{r:R2}(ho:OpR X (uW op) r)(ha:PE X a ta)(hb:PE X b tb)(hm:behindInMarks op b=false):PE X (.Compare a [op] [b] pos) (tOp r ta tb):=by
 intro pins s σ H Q I h
 exact wpAny_Compare1 (pX ha hb I h λv u s2 x y H2 I2 rx ry q=>ho pins s2 σ H2 x y v u Q I2 rx ry q) hm
def o8 (t:TE):TT:=λσ H Q=>t σ H λx H'=>∃k,x = .bl k/\Q k H'
theorem bq {op:CmpOp}{r:R2}(ho:OpR X (uW op) r)(ha:PE X a ta)(hb:PE X b tb)(hm:behindInMarks op b=false):PT X (.Compare a [op] [b] pos) (o8 (tOp r ta tb)):=by
 intro pins s σ H Q I h
 refine x8 (thn (ha pins s σ H _ I h) λv s1 ⟨x,H1,I1,r1,q1⟩=>thn (hb pins s1 σ H1 _ I1 q1) λu s2 ⟨y,H2,I2,r2,q2⟩ =>
  thn (ho pins s2 σ H2 x y v u _ I2 r1 r2 q2) λc s3 ⟨z,H3,I3,r3,k,e,q3⟩ =>?_) hm
 subst e
 cases r3
 exact uM ⟨H3,I3,q3⟩
def l5 (r r':R2)(ta tb tc:TE):TE:=λσ H Q=>ta σ H λx H1=>tb σ H1 λy H2=>r x y H2 λz H3=>∃k,z = .bl k ∧
 (if k=true then tc σ H3 λw' H4=>r' y w' H4 Q else Q (.bl false) H3)
theorem l6 {op op':CmpOp}{r r':R2}(ho:OpR X (uW op) r)(ho':OpR X (uW op') r')(ha:PE X a ta)(hb:PE X b tb)(hc:PE X c tc)
  (hm:lastMarks [op,op'] [b,c]=false:=by with_unfolding_all rfl):PE X (.Compare a [op,op'] [b,c] pos) (l5 r r' ta tb tc):=by
 intro pins s σ H Q I h
 refine Compare_chain (thn (ha pins s σ H _ I h) λv s1 ⟨x,H1,I1,r1,q1⟩=>chain_link (thn (hb pins s1 σ H1 _ I1 q1) λu s2 ⟨y,H2,I2,r2,q2⟩ =>
  thn (ho pins s2 σ H2 x y v u _ I2 r1 r2 q2) λd s3 ⟨z,H3,I3,r3,k,e,q3⟩ =>?_)) hm
 subst e
 cases r3
 refine uM ?_
 cases k with
 | false=>exact ite_ff ⟨.bl false,H3,I3,rfl,q3⟩
 | true=>exact ite_tt (chain_last (thn (hc pins s3 σ H3 _ I3 q3) λw' s4 ⟨z',H4,I4,r4,q4⟩=>ho' pins s4 σ H4 y z' u w' Q I4 r2 r4 q4))
theorem l7 {op op':CmpOp}{r r':R2}(ho:OpR X (uW op) r)(ho':OpR X (uW op') r')(ha:PE X a ta)(hb:PE X b tb)(hc:PE X c tc)
  (hm:lastMarks [op,op'] [b,c]=false:=by with_unfolding_all rfl):PT X (.Compare a [op,op'] [b,c] pos) (o8 (l5 r r' ta tb tc)):=by
 intro pins s σ H Q I h
 refine isTrue_chain (thn (ha pins s σ H _ I h) λv s1 ⟨x,H1,I1,r1,q1⟩=>test_link (thn (hb pins s1 σ H1 _ I1 q1) λu s2 ⟨y,H2,I2,r2,q2⟩ =>
  thn (ho pins s2 σ H2 x y v u _ I2 r1 r2 q2) λd s3 ⟨z,H3,I3,r3,k,e,q3⟩ =>?_)) hm
 subst e
 cases r3
 refine uM ?_
 cases k with
 | false =>
  obtain ⟨k',e',q'⟩:=q3
  cases e'
  exact ite_ff ⟨H3,I3,q'⟩
 | true =>
  refine ite_tt (test_last (thn (hc pins s3 σ H3 _ I3 q3) λw' s4 ⟨z',H4,I4,r4,q4⟩=>thn (ho' pins s4 σ H4 y z' u w' _ I4 r2 r4 q4) λd' s5 ⟨z2,H5,I5,r5,k2,e2,q5⟩ =>?_))
  subst e2
  cases r5
  exact uM ⟨H5,I5,q5⟩
theorem eg:(sM:Nat)<2 ^ 63:=by rw[y8];decide
theorem vals1 {x:V}{us:List sJ}(r:Vals [x] us):∃u,us=[u]/\RelV x u:=by
 cases r with
 | cons r1 r2=>cases r2;exact ⟨_,rfl,r1⟩
theorem vals2 {x y:V}{us:List sJ}(r:Vals [x,y] us):∃u w',us=[u,w']/\RelV x u/\RelV y w':=by
 cases r with
 | cons r1 r2 =>
  cases r2 with
  | cons r3 r4=>cases r4;exact ⟨_,_,rfl,r1,r3⟩
theorem kU (hc:X.calm=true):bS X (.builtin "max") (λxs H Q=>∃i j,xs=[.int i,.int j]/\Q (.int (if j>i then j else i)) H):=by
 intro pins s σ H xs us Q I r h
 obtain ⟨i,j,rfl,q⟩:=h
 obtain ⟨u,w',rfl,⟨t,rfl⟩,⟨t',rfl⟩⟩:=vals2 r
 refine max_two_ints (I.ok.hd hc) λh' tk k=>⟨_,H,I.kept k,?_,q⟩
 by_cases hj:j>i
 ·rw[if_pos hj,if_pos hj];exact ⟨_,rfl⟩
 ·rw[if_neg hj,if_neg hj];exact ⟨_,rfl⟩
theorem eh (hc:X.calm=true):bS X (.builtin "min") (λxs H Q=>∃i j,xs=[.int i,.int j]/\Q (.int (if j<i then j else i)) H):=by
 intro pins s σ H xs us Q I r h
 obtain ⟨i,j,rfl,q⟩:=h
 obtain ⟨u,w',rfl,⟨t,rfl⟩,⟨t',rfl⟩⟩:=vals2 r
 refine min_two_ints (I.ok.hd hc) λh' tk k=>⟨_,H,I.kept k,?_,q⟩
 by_cases hj:j<i
 ·rw[if_pos hj,if_pos hj];exact ⟨_,rfl⟩
 ·rw[if_neg hj,if_neg hj];exact ⟨_,rfl⟩
theorem gk:bS X (.type "int") (λxs H Q=>(∃i,xs=[.int i]/\Q (.int i) H)\/∃k,xs=[.bl k]/\Q (.int (if k then 1 else 0)) H):=by
 intro pins s σ H xs us Q I r h
 rcases h with ⟨i,rfl,q⟩ | ⟨k,rfl,q⟩
 ·obtain ⟨u,rfl,t,rfl⟩:=vals1 r
  exact call_int_int ⟨.int i,H,I,⟨_,rfl⟩,q⟩
 ·obtain ⟨u,rfl,r1⟩:=vals1 r
  cases r1
  exact call_int_bool ⟨.int (if k then 1 else 0),H,I.tok _,⟨_,rfl⟩,q⟩
end
open PySem PySem.Spec PyProof.Rows
structure pZ (h:Heap)(x dx C:Addr)(mA:Str->Option sJ):Prop where
 obj:h.get? x=some (PySem.W.instObj C dx)
 ns:h.Ns1 dx mA
 ne:dx≠x
theorem kW {h:Heap}{dx:Addr}{mA:Str->Option sJ}(n:h.Ns1 dx mA):∃od,h.get? dx=some od/\∀name,PySem.W.lookIn name od=some (mA name):=by
 obtain ⟨o,es,ep,ho,hd,hk,_,hm⟩:=n
 refine ⟨o,ho,λname =>?_⟩
 have e:=hm name
 unfold nsFind findBy at e
 rw[<- Array.find?_toList] at e
 unfold PySem.W.lookIn
 rw[hd]
 dsimp only
 split
 ·rename_i y q
  rw[q] at e
  exact congrArg some e
 ·rename_i q
  rw[q] at e
  have a:es.toList.any (·.refKey)=false:=by
   rw[List.any_eq_false]
   intro y hy
   obtain ⟨z,t,hkey⟩:=hk y (Array.mem_toList_iff.mp hy)
   simp[DictEntry.refKey,hkey]
  have a':¬ es.toList.any (·.refKey)=true:=by rw[a];exact tL
  rw[if_neg a']
  exact congrArg some e
theorem pZ.look {h:Heap}{x dx C:Addr}{mA:Str->Option sJ}(I:pZ h x dx C mA):∃od,PySem.W.InstAt h x (PySem.W.instObj C dx) C (some od)/\∀name,PySem.W.lookIn name od=some (mA name) :=
 let ⟨od,ho,hl⟩:=kW I.ns
 ⟨od,⟨I.obj,rfl,rfl,ho⟩,hl⟩
section
variable  {prog:tj}{w:ud}{A:ue}{E:sJ->sL->Prop}{s:sL}{K:sI}{x dx C f:Addr}{mA:Str->Option sJ}{name:Str}{v:sJ}
end
theorem iK.some_of {v:V}{o:Option sJ}(r:iK (some v) o):∃u,o=some u/\RelV v u:=by
 cases o with
 | none=>exact (show False from r).elim
 | some u=>exact ⟨u,rfl,r⟩
theorem gm {v:V}{u:sJ}(r:RelV v u):PySem.W.handedIn u=true:=by
 cases v with
 | non=>cases (show u=vx from r);rfl
 | bl b=>cases (show u=Value.bool b from r);rfl
 | int i=>obtain ⟨t,e⟩:=(show ∃t,u=vY i t from r);cases e;rfl
 | str x=>obtain ⟨t,e⟩:=(show ∃t,u=Value.str x t from r);cases e;rfl
 | byt b=>obtain ⟨t,e⟩:=(show ∃t,u=Value.bytes b t from r);cases e;rfl
 | flt b=>obtain ⟨t,e⟩:=(show ∃t,u=Value.float b t from r);cases e;rfl
 | ref a=>cases (show u=tH a from r);rfl
 | ty n=>cases (show u=v7 n from r);rfl
section
variable  {P:tj}{w:ud}{H H':Hp}{h h':Heap}{a C dx:Addr}{fs fs':List (Str×V)}
theorem nR (hok:HOk P w H h)(e:H a=some (.ins C dx fs)):∃mA,pZ h a dx C mA/\(∀f,iK (fs.lookup f) (mA f))/\PySem.Within mA (fs.map (·.1))/\fs.length<=1000/\H dx=some (.own a):=by
 obtain ⟨d,z,ne,ob,mA,n,r,q⟩:=(show aQ P w H h a (.ins C dx fs) from hok a _ e)
 exact ⟨mA,⟨ob,n,ne⟩,r,q,z,d⟩
end
structure Cls (K:sI)(C:Addr):Prop where
 pg:PySem.W.plainGet K C Str.empty=true
 hd:PySem.W.hasDictIn K C=true
 po:PySem.W.plainOver K C=true
 sa:PySem.W.findIn K (.ref C) "__setattr__" = some (some (.builtin "object.__setattr__"))
theorem Cls.get {K:sI}{C:Addr}(c:Cls K C)(f:Str):PySem.W.plainGet K C f=true:=c.pg
section
variable  {X:Cx}{pins:List (Addr×Obj)}{σ:St}{H:Hp}{s:sL}{a C dx:Addr}{fs:List (Str×V)}{f:Str}{v:V}{A:ue}{E:sJ->sL->Prop}
theorem jT {prog:tj}{w:ud}{env:Env}{e:Expr}{f:Str}{pos:Pos}{s:sL}{Q:sJ->sL->Prop}(hb:attributeBase e f env (eval e env)=eval e env)
  (h:tP (tN prog w) A (eval e env) (λo s₁=>tP (tN prog w) A (getAttr o f true) Q E s₁) E s):tP (tN prog w) A (eval (.Attribute e f pos) env) Q E s :=
 Attribute_any_ h (by rw[arm_eval_Attribute,hb])
end
section
variable  {X:Cx}{o e value:Expr}{f:Str}{pos pos' tpos:Pos}{ta tv:TE}
end
section
variable  {X:Cx}{pins:List (Addr×Obj)}{σ:St}{H:Hp}{s:sL}{A:ue}{E:sJ->sL->Prop}{Q:sJ->sL->Prop}{c:sJ}{b:Bool}
inductive bW (K:sI)(H:Hp):V->sJ->Prop where
 | non:bW K H .non (.type "NoneType")
 | bl (x:Bool):bW K H (.bl x) (.type "bool")
 | int (i:Int):bW K H (.int i) (.type "int")
 | str (x:Str):bW K H (.str x) (.type "str")
 | flt (x:UInt64):bW K H (.flt x) (.type "float")
 | lst {a:Addr} {xs:List V} (e:H a=some (.lst xs)):bW K H (.ref a) (.type "list")
 | frz {a:Addr} {o:Obj} {xs:List V} (e:H a=some (.frz o (.lst xs))):bW K H (.ref a) (.type "list")
 | tup {a:Addr} {xs:List V} (e:H a=some (.tup xs)):bW K H (.ref a) (.type "tuple")
 | dK {a:Addr} {kvs:List (Key×V)} (e:H a=some (.dK kvs)):bW K H (.ref a) (.type "dict")
 | dT {a:Addr} {kvs:List (List Key×V)} (e:H a=some (.dT kvs)):bW K H (.ref a) (.type "dict")
 | ins {a C dx:Addr} {fs:List (Str×V)} (e:H a=some (.ins C dx fs)) (cl:Cls K C) (ha:PySem.W.findIn K (.ref C) "__class__" = some (some (.builtin "object.__class__")))
   (hn:PySem.W.specialIn K (.builtin "object.__class__") "__get__" = some (some (.builtin "getset_descriptor.__get__"))) (htk:PySem.W.takesIn K (.builtin "object.__class__")=some true)
   (hm:PySem.W.mroIn K C (.type "object")=some true):bW K H (.ref a) (.ref C)
theorem kX {x:V}{u t:sJ}(I:Inv X pins σ H s)(rx:RelV x u)(ty:bW X.K H x t)(e:PySem.W.kitOne X.K t c=some b)(h:∀tk,Q (.bool b) { s with toks:=tk }) :
  tP (tN X.prog X.w) A (call (.builtin "isinstance") [u,c]) Q E s:=by
 cases ty with
 | non=>cases (show u=vx from rx);exact uK yE I.kIn True.intro e (λz=>nomatch z) h
 | bl y=>cases (show u=Value.bool y from rx);exact uK yF I.kIn True.intro e (λz=>nomatch z) h
 | int i=>obtain ⟨t,q⟩:=(show ∃t,u=vY i t from rx);cases q;exact uK yP I.kIn True.intro e (λz=>nomatch z) h
 | str y=>obtain ⟨t,q⟩:=(show ∃t,u=Value.str y t from rx);cases q;exact uK yQ I.kIn True.intro e (λz=>nomatch z) h
 | flt y=>obtain ⟨t,q⟩:=(show ∃t,u=Value.float y t from rx);cases q;exact uK yr I.kIn True.intro e (λz=>nomatch z) h
 | @lst a xs ea =>
  cases (show u=tH a from rx)
  obtain ⟨_,_,n,_,h1⟩:=(show aQ X.prog X.w H s.heap a (.lst xs) from I.hok a _ ea)
  exact uK wm I.kIn ⟨_,h1,rfl⟩ e (λz=>nomatch z) h
 | @frz a ob xs ea =>
  cases (show u=tH a from rx)
  obtain ⟨_,_,_,n,_,h1⟩:=(show aQ X.prog X.w H s.heap a (.frz ob (.lst xs)) from I.hok a _ ea)
  exact uK wm I.kIn ⟨_,h1,rfl⟩ e (λz=>nomatch z) h
 | @tup a xs ea =>
  cases (show u=tH a from rx)
  obtain ⟨_,_,_,p⟩:=(show aQ X.prog X.w H s.heap a (.tup xs) from I.hok a _ ea)
  obtain ⟨o,h1,h2,_⟩:=p
  exact uK yt I.kIn ⟨o,h1,h2.1⟩ e (λz=>nomatch z) h
 | @dK a kvs ea =>
  cases (show u=tH a from rx)
  obtain ⟨_,_,vs,_,p⟩:=(show aQ X.prog X.w H s.heap a (.dK kvs) from I.hok a _ ea)
  obtain ⟨o,es,ep,h1,h2,_⟩:=p
  exact uK wo I.kIn ⟨o,h1,h2.1⟩ e (λz=>nomatch z) h
 | @dT a kvs ea =>
  cases (show u=tH a from rx)
  obtain ⟨_,_,xs,_,o,es,ep,h1,h2,_⟩:=(show aQ X.prog X.w H s.heap a (.dT kvs) from I.hok a _ ea)
  exact uK wo I.kIn ⟨o,h1,h2.1⟩ e (λz=>nomatch z) h
 | @ins a C dx fs ea cl ha hn htk hm =>
  cases (show u=tH a from rx)
  obtain ⟨mA,O,_⟩:=nR I.hok ea
  obtain ⟨od,J,_⟩:=O.look
  exact uK (PySem.W.kitx_own (cl.get _) cl.hd ha hn htk hm) I.kIn J e (λz=>nomatch z) h
end
open PySem PySem.Spec PyProof.Rows
structure bD (k:Nat)(A:ue):Prop where
 hd:A.handled=none
 dp:A.depth+3*k+5<recursionLimit
 un:A.units+16*k+200<cLine
theorem bD.mono {j k:Nat}{A:ue}(r:bD k A)(h:j<=k):bD j A:=⟨r.hd,by have:=r.dp;omega,by have:=r.un;omega⟩
theorem bD.deeper {k:Nat}{A:ue}(r:bD (k+1) A)(env:Env):bD k (A.deeper env) :=
 ⟨r.hd,by have:=r.dp;show A.depth+1+3*k+5<_;omega,by have:=r.un;show A.units+3+16*k+200<_;omega⟩
theorem jl {A:ue}{C:Addr}{us:List sJ}{kw:List (Str×sJ)}:(A.under (.builtin "type.__call__" ⟨.ref C :: us,kw⟩)).depth=A.depth+1:=by
 first | rfl | simp[Around.under,Code.weight,Code.isCreation,Code.isGuard,Code.isCaller,Code.frames,Code.isFrame,guardIds]
theorem jm {A:ue}{C:Addr}{us:List sJ}{kw:List (Str×sJ)}:(A.under (.builtin "type.__call__" ⟨.ref C :: us,kw⟩)).units=A.units+1:=by
 first | rfl | simp[Around.under,Code.cUnits,Code.frames,Code.isFrame]
theorem bD.make {k:Nat}{A:ue}(r:bD (k+1) A)(C:Addr)(us:List sJ)(kw:List (Str×sJ)):bD k (A.under (.builtin "type.__call__" ⟨.ref C :: us,kw⟩)) :=
 ⟨r.hd,by have:=r.dp;rw[jl];omega,by have:=r.un;rw[jm];omega⟩
theorem bD.depth {k:Nat}{A:ue}(r:bD k A):A.depth<recursionLimit:=by have:=r.dp;omega
theorem bD.units {k:Nat}{A:ue}(r:bD k A):A.units+64<cLine:=by have:=r.un;omega
def rG:TA:=λ_ H Q=>Q [] H
def o9 (ta:TE)(tr:TA):TA:=λσ H Q=>ta σ H λx H1=>tr σ H1 λxs H2=>Q (x :: xs) H2
section
variable  {X:Cx}{e:Expr}{es:List Expr}{te:TE}{t:TA}{pos:Pos}
theorem ag:PA X [] rG:=λ_ _ _ _ H Q I h=>Calls.spliced_nil ⟨[],H,I,.nil,h⟩
theorem aa (ha:PE X e te)(hr:PA X es t)(hs:tU (e :: es) X.env=(false,eval e X.env) :: tU es X.env:=by rfl):PA X (e :: es) (o9 te t):=by
 intro pos pins s σ H Q I h
 rw[hs]
 show tP _ _ (spliced ((false,eval e X.env) :: vV pos (tU es X.env))) _ _ s
 refine Calls.spliced_cons (thn (ha pins s σ H _ I h) λu s1 ⟨x,H1,I1,r1,q1⟩ =>?_)
 exact thn (hr pos pins s1 σ H1 _ I1 q1) λus s2 ⟨xs,H2,I2,r2,q2⟩=>⟨x :: xs,H2,I2,.cons r1 r2,q2⟩
def tTup (t:TA):TE:=λσ H Q=>t σ H λxs H1=>xs.length<=sM/\∀p,H1 p=none->Q (.ref p) (upd H1 p (.tup xs))
def tLst (t:TA):TE:=λσ H Q=>t σ H λxs H1=>xs.length<=sM/\∀p,H1 p=none->Q (.ref p) (upd H1 p (.lst xs))
theorem bg {x1}(h:PA X es t):PE X (.Tuple es x1 pos) (tTup t):=by
 intro pins s σ H Q I hq
 refine wpAny_Tuple_spliced (thn (h pos pins s σ H _ I hq) λus s1 ⟨xs,H1,I1,r,z,q⟩=>⟨by rw[<- r.length];exact z,?_⟩)
 have hf:H1 s1.heap.objs.size=none:=I1.hok.fresh (sS _)
 refine ⟨.ref s1.heap.objs.size,upd H1 s1.heap.objs.size (.tup xs),I1.laid (t':=s1.toks) (λb u e=>sN _ e) (sS _) ?_,rfl,q _ hf⟩
 exact ⟨z,us,r,⟨_,tR _ rfl,⟨rfl,rfl⟩,_,rfl⟩⟩
theorem aF (h:PA X es t):PE X (.List es pos) (tLst t):=by
 intro pins s σ H Q I hq
 refine wpAny_List_spliced (thn (h pos pins s σ H _ I hq) λus s1 ⟨xs,H1,I1,r,z,q⟩=>⟨by rw[<- r.length];exact z,?_⟩)
 have hf:H1 s1.heap.objs.size=none:=I1.hok.fresh (sS _)
 refine ⟨.ref s1.heap.objs.size,upd H1 s1.heap.objs.size (.lst xs),I1.laid (t':=s1.toks) (λb u e=>sN _ e) (sS _) ?_,rfl,q _ hf⟩
 exact ⟨z,us,0,r,tR _ rfl⟩
end
abbrev Sp:=List V->Hp->VK->XK->Prop
abbrev CXT:=List Env->Hp->sL->XK->sJ->sL->Prop
structure jq (P:tj)(w:ud)(K:sI)(mg:Str->Option sJ)(base:Heap)(A:ue)(outer:List Env)(s:sL)(H:Hp):Prop where
 frames:A.frames=some outer
 mod:Mod K mg base
 bs:∀b o,base.get? b=some o->s.heap.get? b=some o/\H b=none
 bsz:base.objs.size<=s.heap.objs.size
 funs:s.heap.FunFrames base outer
 frf:∀b∈frs outer,H b=none
 hok:HOk P w H s.heap
 bare:AllBare s.gens
def CE (outer:List Env)(P:tj)(w:ud)(H:Hp)(s:sL)(Q:VK)(u:sJ)(s':sL):Prop :=
 ∃v H',s'.os=s.os/\AllBare s'.gens/\Un (frs outer) [] H H' s.heap s'.heap/\HOk P w H' s'.heap/\RelV v u/\Q v H'
def CR (CX:CXT)(outer:List Env)(P:tj)(w:ud)(H:Hp)(s:sL)(Q:VK)(E:XK)(r:Result)(s':sL):Prop :=
 match r with
 | .ok (.ret u)=>CE outer P w H s Q u s'
 | .ok _=>False
 | .error e=>CX outer H s E e s'
structure aZ (P:tj)(w:ud)(K:sI)(mg:Str->Option sJ)(base:Heap)(CX:CXT)(k:Nat)(f:Addr)(fd:uh)(ps:List Str)(sp:Sp):Prop where
 len:∀vs H Q E,sp vs H Q E->vs.length=ps.length
 run:∀(A:ue) (outer:List Env) (s:sL) (H:Hp) (args:Args) (us:List sJ) (vs:List V) (Q:VK) (E:XK),bD k A->jq P w K mg base A outer s H->BindsTo s fd args (ps.zip us)->Vals vs us->sp vs H Q E →
  yM (tN P w) A (.call (.ref f) args) (CR CX outer P w H s Q E) s
theorem jq.make {P:tj}{w:ud}{K:sI}{mg:Str->Option sJ}{base:Heap}{A:ue}{outer:List Env}{s:sL}{H:Hp}(e:jq P w K mg base A outer s H)(C:Addr)(us:List sJ)(kw:List (Str×sJ)) :
  jq P w K mg base (A.under (.builtin "type.__call__" ⟨.ref C :: us,kw⟩)) outer s H:=⟨by first | exact e.frames | (simpa [Around.under,Code.envs,Code.isFrame,pushEnvs] using e.frames),e.mod,e.bs,e.bsz,e.funs,e.frf,e.hok,e.bare⟩
section
variable  {X:Cx}{pins:List (Addr×Obj)}{σ:St}{H:Hp}{s s':sL}
theorem Inv.qa (I:Inv X pins σ H s):jq X.prog X.w X.K X.mg X.base X.A X.stack s H :=
 ⟨I.ok.frames,I.ok.mod,I.bs,tM I.ok.bsz I.sz,I.stack,I.fb,I.hok,I.bare⟩
theorem Inv.after {Q:VK}{u:sJ}(I:Inv X pins σ H s)(h:CE X.stack X.prog X.w H s Q u s'):EP X pins σ Q u s':=by
 obtain ⟨v,H',os,bare,un,hok,r,q⟩:=h
 obtain ⟨hh,g,d,t,os'⟩:=s'
 obtain rfl:os'=s.os:=os
 exact ⟨v,H',I.call (h':=hh) (g':=g) (d':=d) (t':=t) (ch:=[]) un hok bare (λb z=>absurd z (by simp)),r,q⟩
end
def pe (sp:Sp)(dvs:List V)(E:XK)(t:TA):TE:=λσ H Q=>t σ H λvs H1=>sp (vs++dvs) H1 Q E
def Binds (K:sI)(fd:uh)(ps:List Str)(ds:List sJ):Prop :=
 ∀(s:sL) (us:List sJ),K.In s.heap->(us++ds).length=ps.length->BindsTo s fd ⟨us,[]⟩ (ps.zip (us++ds))
theorem Binds.all {K:sI}{fd:uh}{ps:List Str}(h:∀us:List sJ,us.length=ps.length->bindArgs fd ⟨us,[]⟩=pure (ps.zip us)):Binds K fd ps []:=λs us _ hl=>by
 rw[uA] at hl ⊢
 exact .of_eq (h us hl)
def Passes (CX:CXT)(X:Cx)(E:XK):Prop:=∀(pins:List (Addr×Obj)) (σ:St) (H:Hp) (s:sL) (e:sJ) (s':sL),Inv X pins σ H s->CX X.stack H s E e s'->X.xe e s'
section
variable  {X:Cx}{CX:CXT}{k:Nat}{f C:Addr}{fd:uh}{ps:List Str}{sp:Sp}{dvs:List V}{ds:List sJ}{E:XK}{x m:Str}{p pos apos:Pos}{e o:Expr}{es:List Expr}{ta:TE}{t:TA}
theorem qb {pins:List (Addr×Obj)}{σ:St}{H:Hp}{s:sL}{Q:VK}{us:List sJ}{vs:List V}(F:aZ X.prog X.w X.K X.mg X.base CX k f fd ps sp)(hr:bD k X.A)(hb:Binds X.K fd ps ds)(hd:Vals dvs ds)(hx:Passes CX X E)
  (I:Inv X pins σ H s) (r:Vals vs us) (h:sp (vs++dvs) H Q E):tP (tN X.prog X.w) X.A (call (.ref f) us) (EP X pins σ Q) X.xe s:=by
 have r2:Vals (vs++dvs) (us++ds):=r.append hd
 have hl:(us++ds).length=ps.length:=by rw[<- r2.length];exact F.len _ _ _ _ h
 refine yd (wz (F.run X.A X.stack s H ⟨us,[]⟩ (us++ds) (vs++dvs) Q E hr I.qa (hb s us I.kIn hl) r2 h) λr s' hq =>?_)
 cases r with
 | error e=>exact hx pins σ H s e s' I hq
 | ok fl =>
  cases fl with
  | ret u=>exact I.after hq
  | next=>exact False.elim hq
  | brk=>exact False.elim hq
  | cont=>exact False.elim hq
theorem nU (F:aZ X.prog X.w X.K X.mg X.base CX k f fd ps sp)(hr:bD k X.A)(hg:Gl X x)(hm:X.mg x=some (.ref f))(hk:PySem.W.keepIn X.K (.ref f)=true)(hb:Binds X.K fd ps ds)(hd:Vals dvs ds)(hx:Passes CX X E)
  (ha:PA X (e :: es) t) (hdb:(x == ("__debug__" : Str))=false:=by decide) (he:tU (e :: es) X.env=(false,eval e X.env) :: tU es X.env:=by rfl) (hpl:(vV pos (tU es X.env)).any (·.1)=false:=by rfl) :
  PE X (.Call (.Name x p) (e :: es) [] pos) (pe sp dvs E t):=by
 intro pins s σ H Q I h
 refine uQ (bU I hg hm ?_ hdb)
 refine vI (h₀:=X.base) I.ok.mod.kin hk (thn (ha pos pins s σ H _ I h) λus s1 ⟨vs,H1,I1,r,q⟩=>⟨I1.kIn,?_⟩) he hpl
 exact qb F hr hb hd hx I1 r q
end
section
variable  {X:Cx}{CX:CXT}{k:Nat}{f C:Addr}{fd:uh}{ps ks:List Str}{sp:Sp}{E:XK}{x m:Str}{p pos apos kpos:Pos}{e o:Expr}{es:List Expr}{kws:List Keyword}{te ta:TE}{t tk:TA}{nm:Option Str}
variable  {g:List sJ->List sJ->List sJ}{gV:List V->List V->List V}
end
structure aP (N P:List Str)(sc:Scope):Prop where
 kind:sc.kind = .function
 co:sc.isCoroutine=false
 gen:sc.isGenerator=false
 nd:N.Nodup
 pre:N.take P.length=P
 par:∀x∈P,sc.names.lookup x=some .local\/sc.names.lookup x=some .cell
 nofree:∀y∈sc.names,y.2 ≠ .free
theorem gp {kindOf:Str->Option NameKind}{x:Str}:∀{binds:List (Str×sJ)} {m:Str->Option sJ},(∀v,(x,v)∉binds)->bindL kindOf binds m x=m x
 | [],_,_=>rfl
 | (n,v) :: r,m,h=>by
  unfold bindL
  rw[gp λw hw=>h w (tS _ hw)]
  split
  ·have:x≠n:=by rintro rfl;exact h v ur
   simp[this]
  ·rfl
theorem gq {kindOf:Str->Option NameKind}{x:Str}:∀{binds:List (Str×sJ)} {m:Str->Option sJ},(∀v,(x,v)∉binds)->bindC kindOf binds m x=m x
 | [],_,_=>rfl
 | (n,v) :: r,m,h=>by
  unfold bindC
  rw[gq λw hw=>h w (tS _ hw)]
  split
  ·rfl
  ·have:x≠n:=by rintro rfl;exact h v ur
   simp[this]
theorem gr {kindOf:Str->Option NameKind}{x:Str}{v:sJ}:∀{P:List Str} {vs:List sJ} {i:Nat} {m:Str->Option sJ},P.Nodup->P[i]? = some x->vs[i]? = some v->kindOf x=some .local →
  bindL kindOf (P.zip vs) m x=some v
 | [],_,_,_,_,h,_,_=>by simp at h
 | _ :: _,[],_,_,_,_,h,_=>by simp at h
 | p :: P,w :: vs,0,m,nd,h1,h2,hk=>by
  simp at h1 h2;subst h1;subst h2
  show bindL kindOf ((p,w) :: P.zip vs) m p=_
  unfold bindL
  rw[gp λv hv=>(wM.mp nd).1 (xX hv).1,if_pos hk]
  simp
 | p :: P,w :: vs,i+1,m,nd,h1,h2,hk=>by
  show bindL kindOf ((p,w) :: P.zip vs) m x=_
  unfold bindL
  exact gr (i:=i) (wM.mp nd).2 (by simpa using h1) (by simpa using h2) hk
theorem gs {kindOf:Str->Option NameKind}{x:Str}{v:sJ}:∀{P:List Str} {vs:List sJ} {i:Nat} {m:Str->Option sJ},P.Nodup->P[i]? = some x->vs[i]? = some v->kindOf x≠some .local →
  bindC kindOf (P.zip vs) m x=some v
 | [],_,_,_,_,h,_,_=>by simp at h
 | _ :: _,[],_,_,_,_,h,_=>by simp at h
 | p :: P,w :: vs,0,m,nd,h1,h2,hk=>by
  simp at h1 h2;subst h1;subst h2
  show bindC kindOf ((p,w) :: P.zip vs) m p=_
  unfold bindC
  rw[gq λv hv=>(wM.mp nd).1 (xX hv).1,if_neg hk]
  simp
 | p :: P,w :: vs,i+1,m,nd,h1,h2,hk=>by
  show bindC kindOf ((p,w) :: P.zip vs) m x=_
  unfold bindC
  exact gs (i:=i) (wM.mp nd).2 (by simpa using h1) (by simpa using h2) hk
def start (N:List Str)(vs:List V):St:=vs.map some++tI (N.length-vs.length) none
def fz (CX:CXT)(P:tj)(w:ud)(K:sI)(mg:Str->Option sJ)(base:Heap)(N:List Str)(qual:Str)(scope:Scope)(f:Addr)(cd:sJ)(A:ue)(outer:List Env)(s:sL)(H:Hp)(E:XK):Cx where
 prog:=P
 w:=w
 K:=K
 mg:=mg
 base:=base
 A:=A.deeper (envOfC qual scope s.heap.objs.size f cd)
 N:=N
 s₀:=s
 H₀:=H
 env:=envOfC qual scope s.heap.objs.size f cd
 outer:=outer
 stack:=envOfC qual scope s.heap.objs.size f cd :: outer
 ex:=[]
 calm:=true
 fn:=λ_=>true
 pn:=[]
 xe:=λe s'=>tP (tN P w) (A.deeper (envOfC qual scope s.heap.objs.size f cd)) (leaving (envOfC qual scope s.heap.objs.size f cd) e) (λ_ s''=>CX outer H s E e s'') (λe' s''=>CX outer H s E e' s'') s'
theorem iM {sc:Scope}{n:Nat}{x:Str}(h:sc.names.lookup x=some .cell):∃c,(cellsFrom n sc.names []).lookup x=some c:=by
 have q:=xQ sc.names n [] (.inl h)
 exact Option.isSome_iff_exists.mp q
theorem kY {CX:CXT}{P:tj}{w:ud}{K:sI}{mg:Str->Option sJ}{base:Heap}{N ps:List Str}{qual:Str}{scope:Scope}{f:Addr}{cd:sJ}{A:ue}{outer:List Env}{s s1:sL}{H:Hp}{E:XK}{us:List sJ}{vs:List V}
  (S:aP N ps scope) (hd:A.handled=none) (e0:jq P w K mg base A outer s H) (hl:vs.length=ps.length) (r:Vals vs us)
  (x:InCallC s s.heap.objs.size (bindL (envOfC qual scope s.heap.objs.size f cd).kindOf (ps.zip us) λ_=>none) (cellsFrom (s.heap.objs.size+1) scope.names []) (bindC (envOfC qual scope s.heap.objs.size f cd).kindOf (ps.zip us) λ_=>none) s1) :
  Inv (fz CX P w K mg base N qual scope f cd A outer s H E) [] (start N vs) H s1:=by
 have hpl:ps.length<=N.length:=by have:=congrArg List.length S.pre;rw[uH] at this;omega
 obtain ⟨h1,tk,rfl,hk⟩:=x.done
 have noA:∀b:Addr,b∉(fz CX P w K mg base N qual scope f cd A outer s H E).ex:=λb z=>absurd (show b∈([]:List Addr) from z) (by simp)
 refine ⟨⟨e0.mod,S.kind,rfl,rfl,sS _,λy z c h1 h2 =>?_,λy hy =>?_,λy c _ h =>?_,λ_=>hd,Around.frames_deeper e0.frames,.inr ⟨rfl,rfl⟩,λb z=>absurd z (noA b),e0.bs,e0.bsz,λb _ _=>noA b,λb z=>absurd z (noA b),e0.funs,e0.frf⟩,
  rfl,e0.bare,Un.kept hk,⟨_,x.toInCall.ns,λi y v h1 h2 h3 =>?_⟩,λy c h=>⟨_,x.cell y c h⟩,e0.hok.fresh (sS _),λy c h =>?_,λp hp=>absurd (show p∈([]:List (Addr×Obj)) from hp) (by simp),e0.hok.kept hk,?_⟩
 ·exact name_of_addr x.apart (vg h1) (vg h2)
 ·have hy:scope.names.lookup y=some .cell\/scope.names.lookup y=some .free:=hy
  rcases hy with hy | hy
  ·exact iM hy
  ·exact absurd rfl (S.nofree _ (vg hy))
 ·exact xf (x.above y c (vg h))
 ·have hi:i<vs.length:=by
   unfold start at h2
   by_cases hi:i<vs.length
   ·exact hi
   ·rw[vU (by simpa using hi)] at h2
    rw[xF] at h2
    split at h2 <;> cases h2
  have ha:vs[i]? = some v:=by
   unfold start at h2
   rw[vX (by simpa using hi),vS] at h2
   cases e:vs[i]? with
   | none=>rw[e] at h2;cases h2
   | some a=>rw[e] at h2;cases h2;rfl
  obtain ⟨u,hu,rv⟩:=r.get ha
  have hp:ps[i]? = some y:=by
   rw[<- S.pre,List.getElem?_take_of_lt (by omega)];exact h1
  have ndP:ps.Nodup:=by rw[<- S.pre];exact S.nd.sublist (uB _ _)
  refine ⟨u,rv,?_⟩
  rcases S.par y (tD hp) with k | k
  ·exact .inl ⟨k,gr ndP hp hu k⟩
  ·obtain ⟨c,e⟩:=iM (n:=s.heap.objs.size+1) k
   refine .inr ⟨.inl k,c,e,?_⟩
   have q:=x.cell y c e
   rw[gs ndP hp hu (by show scope.names.lookup y≠_;rw[k];decide)] at q
   exact q
 ·exact e0.hok.fresh (xf (x.above y c (vg h)))
 ·unfold start
  show _=N.length
  rw[tw,t7,u0]
  omega
theorem pf {CX:CXT}{P:tj}{w:ud}{K:sI}{mg:Str->Option sJ}{base:Heap}{k:Nat}{f:Addr}{name qual:Str}{params:Arguments}{body:List Stmt}{scope:Scope}{dV kV doc pm cdv ct oc:sJ}{an od:Option Addr}
  {osl:Array (Option sJ)} {N ps:List Str} {sp:Sp} (lk:K.lookup f=some ⟨oc,od,.func (PySem.W.fnOf name qual params body scope dV kV doc pm an cdv ct),osl⟩) (hcd:PySem.W.codeIn K cdv qual=true) (S:aP N ps scope)
  (len:∀vs H Q E,sp vs H Q E->vs.length=ps.length)
  (hbody:∀(A:ue) (outer:List Env) (s:sL) (H:Hp) (vs:List V) (Q:VK) (E:XK),bD k (A.deeper (envOfC qual scope s.heap.objs.size f cdv))->sp vs H Q E →
   ∃t,PSs (fz CX P w K mg base N qual scope f cdv A outer s H E) body t/\t { nx:=λ_ H'=>Q .non H',rt:=Q } (start N vs) H) :
  aZ P w K mg base CX (k+1) f (PySem.W.fnOf name qual params body scope dV kV doc pm an cdv ct) ps sp:=by
 refine ⟨len,λA outer s H args us vs Q E hr e0 hb r hsp =>?_⟩
 have hl:=len _ _ _ _ hsp
 have KX:K.In s.heap:=e0.mod.kin.keeps λb o e=>(e0.bs b o e).1
 have lim:s.heap.NoLimit:=e0.mod.nolimit.keeps λb o e=>(e0.bs b o e).1
 have hkind:∀y∈ps.zip us,scope.names.lookup y.1=some .local\/(scope.names.lookup y.1=some .cell/\((cellsFrom (s.heap.objs.size+1) scope.names []).lookup y.1).isSome=true):=λ⟨n,v⟩ hy=>by
  rcases S.par n (xX hy).1 with q | q
  ·exact .inl q
  ·exact .inr ⟨q,xQ _ _ _ (.inl q)⟩
 refine codeAny_call_function hr.depth (KX _ _ lk) rfl S.co S.gen rfl (PySem.W.codeRec_of KX hcd) (hb _ _ _ _ ?_)
 refine wpAny_newFunctionEnv_cells S.kind hkind λenv he s1 x =>?_
 subst he
 refine ⟨lim.keeps x.toInCall.keep,codeAny_func ?_⟩
 obtain ⟨t,ht,hq⟩:=hbody A outer s H vs Q E (hr.deeper _) hsp
 have I:Inv (fz CX P w K mg base N qual scope f cdv A outer s H E) [] (start N vs) H s1:=kY S hr.hd e0 hl r x
 refine uw (ht [] s1 (start N vs) H _ I hq) (λfl s' hs =>?_) λe s' hs=>hs
 have fin:∀{σ':St} {H':Hp} {v:V} {u:sJ},Inv (fz CX P w K mg base N qual scope f cdv A outer s H E) [] σ' H' s'->RelV v u->Q v H'->CE outer P w H s Q u s' :=
  λ{σ' H' v u} J rv q=>⟨v,H',J.os,J.bare,J.base,J.hok,rv,q⟩
 cases fl with
 | ret u =>
  obtain ⟨v,σ',H',J,rv,q⟩:=hs
  exact fin J rv q
 | next =>
  obtain ⟨σ',H',J,q⟩:=hs
  exact fin (v:=V.non) (u:=vx) J rfl q
 | brk =>
  obtain ⟨_,_,_,q⟩:=hs
  exact False.elim q
 | cont =>
  obtain ⟨_,_,_,q⟩:=hs
  exact False.elim q
open PySem PySem.Spec PyProof.Rows
section
variable  {X:Cx}{x:Str}{p pos:Pos}{e:Expr}{es:List Expr}{t:TA}{id T:String}{r:List V->Hp->VK->Prop}
def tCB (r:List V->Hp->VK->Prop)(t:TA):TE:=λσ H Q=>t σ H λvs H1=>r vs H1 Q
theorem aq (hc:bS X (.builtin id) r)(hg:Gl X x)(hm:X.mg x=none)(hv:uv x=some (.builtin id))(ha:PA X (e :: es) t)(hn:x ≠ "__name__" := by decide)(hdb:(x == ("__debug__" : Str))=false:=by decide)
  (he:tU (e :: es) X.env=(false,eval e X.env) :: tU es X.env:=by rfl) (hpl:(vV pos (tU es X.env)).any (·.1)=false:=by rfl):PE X (.Call (.Name x p) (e :: es) [] pos) (tCB r t):=by
 intro pins s σ H Q I h
 refine uQ (dY I hg hm hv ?_ hn hdb)
 exact PyProof.Rows.callWith_builtin1 (thn (ha pos pins s σ H _ I h) λus s1 ⟨vs,H1,I1,r1,q1⟩=>hc pins s1 σ H1 vs us Q I1 r1 q1) he hpl
theorem cX (hc:bS X (.type T) r)(hg:Gl X x)(hm:X.mg x=none)(hv:uv x=some (.type T))(ha:PA X (e :: es) t)(hn:x ≠ "__name__" := by decide)(hdb:(x == ("__debug__" : Str))=false:=by decide)
  (he:tU (e :: es) X.env=(false,eval e X.env) :: tU es X.env:=by rfl) (hpl:(vV pos (tU es X.env)).any (·.1)=false:=by rfl):PE X (.Call (.Name x p) (e :: es) [] pos) (tCB r t):=by
 intro pins s σ H Q I h
 refine uQ (dY I hg hm hv ?_ hn hdb)
 exact vJ (thn (ha pos pins s σ H _ I h) λus s1 ⟨vs,H1,I1,r1,q1⟩=>hc pins s1 σ H1 vs us Q I1 r1 q1) he hpl
end
end L2
namespace HT
open PySem PyProof.Rows
def lexLt:List Int->List Int->Bool
 | [],[]=>false
 | [],_ :: _=>true
 | _ :: _,[]=>false
 | x :: xs,y :: ys=>if x=y then lexLt xs ys else decide (x<y)
theorem cy (x y:Int)(xs ys:List Int):lexLt (x :: xs) (y :: ys)=if x=y then lexLt xs ys else decide (x<y):=rfl
theorem l8 (A:ue)(s:sL)(a:Int)(t:Tok)(c:Int)(u:Tok)(prog:tj)(w:ud)(E:sJ->sL->Prop)(Q:sJ->sL->Prop)(h:Q (.bool (decide (a<c))) s) :
  tP (tN prog w) A (richCompare .Lt (.int a t) (.int c u)) Q E s :=
 (PyProof.Rows.lt_int h:tP (tN prog w) A (uW .Lt (.int a t) (.int c u)) Q E s)
section
open PySem.SeqAt
open PySem.AutoSeq1 (wpAny_loadPart')
open PySem.MeetsSeq PySem.MeetsSeq2 PySem.MeetsSeq3
end
section
variable  {prog:tj}{w:ud}{A:ue}{E:sJ->sL->Prop}{s:sL}
def sIx (n d:Nat):Option Int->Nat
 | none=>d
 | some v=>if v<0 then (v+(n:Int)).toNat else min v.toNat n
theorem nV (n d k:Nat):sIx n d (some (k:Int))=min k n:=by
 show (if (k:Int)<0 then ((k:Int)+(n:Int)).toNat else min (k:Int).toNat n)=min k n
 rw[if_neg (by omega),xw]
end
end HT
namespace L2
open PySem PySem.Spec PyProof.Rows
abbrev TO:=St->Hp->(Option Int->Hp->Prop)->Prop
def PO (X:Cx)(e:Option Expr)(t:TO):Prop :=
 ∀(pins:List (Addr×Obj)) (s:sL) (σ:St) (H:Hp) (Q:Option Int->Hp->Prop),Inv X pins σ H s->t σ H Q →
  tP (tN X.prog X.w) X.A (evalPart e X.env) (λu s'=>∃o H',Inv X pins σ H' s'/\IsPart u o/\Q o H') X.xe s
def nW:TO:=λ_ H Q=>Q none H
def rH (t:TE):TO:=λσ H Q=>t σ H λx H1=>∃i,x = .int i/\Q (some i) H1
theorem intsAre_of {ns:List Int}:∀{us:List sJ},Vals (ns.map V.int) us->v5 us ns:=by
 induction ns with
 | nil=>intro us r;rw[yN] at r;cases r;exact .nil
 | cons n ns ih =>
  intro us r
  rw[ug] at r
  cases r with
  | cons r1 r2 =>
   obtain ⟨t,e⟩:=r1
   subst e
   exact .cons n t (ih r2)
section
variable  {X:Cx}{e:Expr}{te:TE}{lo hi:Option Expr}{tl th:TO}{pos p2:Pos}
theorem gQ:PO X none nW:=by
 intro pins s σ H Q I h
 rw[evalPart_none]
 exact tQ ⟨none,H,I,.none,h⟩
theorem gR (h:PE X e te):PO X (some e) (rH te):=by
 intro pins s σ H Q I hw
 rw[evalPart_some]
 refine thn (h pins s σ H _ I hw) λu s1 ⟨x,H1,I1,r1,q1⟩ =>?_
 obtain ⟨i,rfl,q⟩:=q1
 obtain ⟨t,rfl⟩:=r1
 exact ⟨some i,H1,I1,.int i t,q⟩
def SlR (X:Cx)(r:V->Option Int->Option Int->Hp->VK->Prop):Prop :=
 ∀(pins:List (Addr×Obj)) (s:sL) (σ:St) (H:Hp) (x:V) (v vl vu:sJ) (lo hi:Option Int) (sl:Addr) (Q:VK),Inv X pins σ H s->RelV x v->s.heap.IsSliceOf sl vl vu .none->IsPart vl lo->IsPart vu hi->r x lo hi H Q →
  ∃T id,typeLookup (.type T) "__getitem__" = pure (some (.builtin id))/\s.TypeIs v T/\tP (tN X.prog X.w) X.A (getItem v (.ref sl)) (EP X pins σ Q) X.xe s
def tSl (r:V->Option Int->Option Int->Hp->VK->Prop)(te:TE)(tl th:TO):TE:=λσ H Q=>te σ H λx H1=>tl σ H1 λl H2=>th σ H2 λu H3=>r x l u H3 Q
theorem fA {r:V->Option Int->Option Int->Hp->VK->Prop}(hr:SlR X r)(he:PE X e te)(hl:PO X lo tl)(hu:PO X hi th):PE X (.Subscript e (.Slice lo hi none p2) pos) (tSl r te tl th):=by
 intro pins s σ H Q I h
 refine Subscript_ (thn (he pins s σ H _ I h) λv s1 ⟨x,H1,I1,r1,q1⟩ =>?_)
 refine wpAny_Slice (thn (hl pins s1 σ H1 _ I1 q1) λvl s2 ⟨l,H2,I2,pl,q2⟩=>thn (hu pins s2 σ H2 _ I2 q2) λvu s3 ⟨u,H3,I3,pu,q3⟩ =>?_)
 rw[evalPart_none]
 refine tQ ?_
 have I4:Inv X pins σ H3 { s3 with heap:=s3.heap.push { cls :=.type "slice",data :=.fields #[vl,vu,.none] } }:=I3.kept (t':=s3.toks) λb ob q=>sN _ q
 obtain ⟨T,id,hT,ht,hg⟩:=hr pins { s3 with heap:=s3.heap.push { cls :=.type "slice",data :=.fields #[vl,vu,.none] } } σ H3 x v vl vu l u s3.heap.objs.size Q I4 r1 (zF ..) pl pu q3
 show tP (tN X.prog X.w) X.A (subscriptTail e (.Slice lo hi none p2) v (.ref s3.heap.objs.size)) (EP X pins σ Q) X.xe { s3 with heap:=s3.heap.push { cls :=.type "slice",data :=.fields #[vl,vu,.none] } }
 exact tail_any (ops:=[.ref s3.heap.objs.size,v]) ht hT hg (by with_unfolding_all rfl)
def gS (xs:List V)(lo hi:Option Int):List V:=(xs.drop (HT.sIx xs.length 0 lo)).take (HT.sIx xs.length xs.length hi-HT.sIx xs.length 0 lo)
theorem eN (xs:List V)(lo hi:Option Int):(gS xs lo hi).length<=xs.length:=by
 unfold gS
 rw[uH,uL]
 omega
end
open PySem PySem.Spec PyProof.Rows
def ixN (n:Nat)(i:Int):Option Nat:=if 0<=i then (if i<n then some i.toNat else none) else if -(n:Int)<=i then some (i+n).toNat else none
def atI {α:Type}(xs:List α)(i:Int):Option α:=(ixN xs.length i).bind λj=>xs[j]?
theorem jU {n:Nat}{i:Int}{j:Nat}(h:ixN n i=some j):seqIndex? i n=some j/\j<n /\ -(n:Int)<=i/\i<n:=by
 unfold ixN at h
 by_cases h0:0<=i
 ·rw[if_pos h0] at h
  by_cases h1:i<n
  ·rw[if_pos h1] at h
   have e:i.toNat=j:=tV h
   exact ⟨by rw[y9 h0 h1,e],by omega,by omega,h1⟩
  ·rw[if_neg h1] at h;cases h
 ·rw[if_neg h0] at h
  by_cases h1 : -(n:Int)<=i
  ·rw[if_pos h1] at h
   have e:(i+n).toNat=j:=tV h
   exact ⟨by rw[yO (by omega) h1,e],by omega,h1,by omega⟩
  ·rw[if_neg h1] at h;cases h
theorem gT {α:Type}{xs:List α}{i:Int}{v:α}(h:atI xs i=some v):∃j,seqIndex? i xs.length=some j/\xs[j]? = some v/\j<xs.length /\ -(xs.length:Int)<=i/\i<xs.length:=by
 unfold atI at h
 cases e:ixN xs.length i with
 | none=>rw[e] at h;cases h
 | some j =>
  rw[e] at h
  obtain ⟨h1,h2,h3,h4⟩:=jU e
  exact ⟨j,h1,h,h2,h3,h4⟩
theorem cY {α:Type}{xs:List α}{j:Nat}{v:α}(h:xs[j]? = some v):atI xs (j:Int)=some v:=by
 have hj:j<xs.length:=(sQ.mp h).1
 have e:ixN xs.length (j:Int)=some j:=by
  unfold ixN
  rw[if_pos (by omega),if_pos (by omega)];simp
 unfold atI;rw[e];exact h
def nX (b:Expr):Prop:=∀o i,subscripted b false o i=operate [o,i] (getItem o i)
def IxR (X:Cx)(r:R2):Prop :=
 ∀(value slice:Expr) (pins:List (Addr×Obj)) (s:sL) (σ:St) (H:Hp) (x y:V) (v u:sJ) (Q:VK),Inv X pins σ H s->RelV x v->RelV y u->r x y H Q →
  subscripted slice false v u=operate [v,u] (getItem v u)->tP (tN X.prog X.w) X.A (subscriptTail value slice v u) (EP X pins σ Q) X.xe s
def MtR (X:Cx)(id:String)(r:V->List V->Hp->VK->Prop):Prop :=
 ∀(pins:List (Addr×Obj)) (s:sL) (σ:St) (H:Hp) (x:V) (xs:List V) (v:sJ) (us:List sJ) (Q:VK),Inv X pins σ H s->RelV x v->Vals xs us->r x xs H Q →
  tP (tN X.prog X.w) X.A (call (.builtin id) (v :: us)) (EP X pins σ Q) X.xe s
section
variable  {X:Cx}{a b:Expr}{ta tb:TE}{pos:Pos}
theorem IxR.or {r r':R2}(h:IxR X r)(h':IxR X r'):IxR X (λx y H Q=>r x y H Q\/r' x y H Q):=by
 intro value slice pins s σ H x y v u Q I rx ry q hs
 rcases q with q | q
 ·exact h value slice pins s σ H x y v u Q I rx ry q hs
 ·exact h' value slice pins s σ H x y v u Q I rx ry q hs
theorem b8 {r:R2}(hr:IxR X r)(ha:PE X a ta)(hb:PE X b tb)(hs:nX b):PE X (.Subscript a b pos) (tOp r ta tb):=by
 intro pins s σ H Q I h
 exact Subscript_ (pX ha hb I h λv u s2 x y H2 I2 rx ry q=>hr a b pins s2 σ H2 x y v u Q I2 rx ry q (hs _ _))
def qc (K:sI):R2:=λx y H Q=>∃p xs i v,x = .ref p/\y = .int i/\SqL K H p xs/\atI xs i=some v/\Q v H
def rJ (K:sI):R2:=λx y H Q=>∃p xs i v,x = .ref p/\y = .int i/\SqT K H p xs/\atI xs i=some v/\Q v H
def rK:R2:=λx y H Q=>∃z i c,x = .str z/\y = .int i/\z.length<=sM/\atI z.cps.toList i=some c/\Q (.str ⟨#[c]⟩) H
theorem bE:IxR X (qc X.K):=by
 intro value slice pins s σ H x y v u Q I rx ry h hs
 obtain ⟨p,xs,i,z,rfl,rfl,hq,he,q⟩:=h
 cases rx
 obtain ⟨t,rfl⟩:=ry
 obtain ⟨its,r,pl,hz⟩:=I.list hq
 obtain ⟨j,h1,h2,h3,h4,h5⟩:=gT he
 obtain ⟨w,ew,rw'⟩:=r.get h2
 have hl:=r.length
 have hn:=eg
 have fin:EP X pins σ Q w s:=⟨z,H,I,rw',q⟩
 by_cases h0:0<=i
 ·have hj:i.toNat=j:=by
   rw[y9 h0 h5] at h1
   exact tV h1
  exact item_listR pl.isList h0 (by omega) (by rw[hj];simpa using ew) fin hs
 ·have hj:(i+(its.toArray.size:Int)).toNat=j:=by
   rw[yO (by omega) h4] at h1
   rw[sO, <- hl]
   exact tV h1
  exact xU (x:=w) pl.isList.typeIs slot_list_getitem.lookup
   (wpAny_getItem_list_neg (Q:=λr s'=>r=w/\EP X pins σ Q r s') pl.isList (by omega) (by rw[sO] <;> omega) (by omega) (by rw[hj];simpa using ew) ⟨rfl,fin⟩) hs
theorem qd:IxR X (rJ X.K):=by
 intro value slice pins s σ H x y v u Q I rx ry h hs
 obtain ⟨p,xs,i,z,rfl,rfl,hq,he,q⟩:=h
 cases rx
 obtain ⟨t,rfl⟩:=ry
 obtain ⟨its,r,pl,hz⟩:=I.tuple hq
 obtain ⟨j,h1,h2,h3,h4,h5⟩:=gT he
 obtain ⟨w,ew,rw'⟩:=r.get h2
 have hl:=r.length
 have hn:=eg
 have fin:EP X pins σ Q w s:=⟨z,H,I,rw',q⟩
 exact xU (x:=w) pl.typeIs slot_tuple_getitem.lookup
  (getItem_tuple (j:=j) (Q:=λr s'=>r=w/\EP X pins σ Q r s') pl (by omega) (by omega) (by rw[sO, <- hl];exact h1) (by simpa using ew) ⟨rfl,fin⟩) hs
theorem qe:IxR X rK:=by
 intro value slice pins s σ H x y v u Q I rx ry h hs
 obtain ⟨z,i,c,rfl,rfl,hz,he,q⟩:=h
 obtain ⟨t,rfl⟩:=rx
 obtain ⟨t',rfl⟩:=ry
 obtain ⟨j,h1,h2,h3,h4,h5⟩:=gT he
 have hl:z.cps.toList.length=z.length:=by simp[Str.length]
 rw[hl] at h1 h4 h5
 have hn:=eg
 exact tail_any (zw s z t) slot_str_getitem.lookup (getItem_str (c:=c) (by
  have e1:decide (i < -(2 ^ 63:Int))=false:=decide_eq_false (by omega)
  have e2:decide (i≥2 ^ 63)=false:=decide_eq_false (by omega)
  rw[e1,e2,Bool.or_false]) (by rw[h1];simpa using h2) ⟨.str ⟨#[c]⟩,H,I.tok _,⟨_,rfl⟩,q⟩) hs
def rIx (K:sI):R2:=λx y H Q=>qc K x y H Q\/rJ K x y H Q\/rK x y H Q
theorem qf:IxR X (rIx X.K):=bE.or (qd.or qe)
theorem js (its:List sJ)(n j:Nat)(u:sJ):vy (·.setIfInBounds j u) { cls :=.type "list",data :=.seq its.toArray n }={ cls :=.type "list",data :=.seq (its.set j u).toArray n }:=by
 simp[vy]
theorem Inv.lst {pins:List (Addr×Obj)}{σ:St}{H:Hp}{s:sL}{p:Addr}{xs:List V}(I:Inv X pins σ H s)(h:H p=some (.lst xs)) :
  ∃(its:List sJ) (n:Nat),Vals xs its/\s.heap.get? p=some { cls :=.type "list",data :=.seq its.toArray n }/\xs.length<=sM:=by
 obtain ⟨z,its,n,r,e⟩:=I.hok p _ h
 exact ⟨its,n,r,e,z⟩
theorem Inv.qg {pins:List (Addr×Obj)}{σ:St}{H:Hp}{s:sL}{p:Addr}{xs ys:List V}{its its':List sJ}{n n':Nat}{f:Obj->Obj}(I:Inv X pins σ H s)(h:H p=some (.lst xs))
  (ho:s.heap.get? p=some { cls :=.type "list",data :=.seq its.toArray n }) (hf:f { cls :=.type "list",data :=.seq its.toArray n }={ cls :=.type "list",data :=.seq its'.toArray n' }) (r:Vals ys its') (hz:ys.length<=sM) (t:Nat) :
  Inv X pins σ (upd H p (.lst ys)) { s with heap:=s.heap.update p f,toks:=t }:=by
 have e:(s.heap.update p f).get? p=some { cls :=.type "list",data :=.seq its'.toArray n' }:=by
  rw[vo f ho (by rw[hf] <;> rfl),hf]
 refine I.write (x:=p) (e:=p) (by rw[h];trivial) (.inl rfl) (λb u hb q=>(wk _ _ (vf hb)).trans q) ⟨_,e⟩ ?_
 exact ⟨hz,its',n',r,e⟩
def rL:V->V->V->Hp->(Hp->Prop)->Prop:=λo i v H Q=>∃p xs k j,o = .ref p/\i = .int k/\H p=some (.lst xs)/\ixN xs.length k=some j/\Q (upd H p (.lst (xs.set j v)))
theorem set_list:rh X rL:=by
 intro pins s σ H o i v ov iv u Q I ro ri rv h
 obtain ⟨p,xs,k,j,rfl,rfl,hp,hj,q⟩:=h
 cases ro
 obtain ⟨t,rfl⟩:=ri
 obtain ⟨its,n,r,ho,hz⟩:=I.lst hp
 obtain ⟨h1,h2,h3,h4⟩:=jU hj
 have hl:=r.length
 have hn:=eg
 have I':Inv X pins σ (upd H p (.lst (xs.set j v))) { s with heap:=s.heap.update p (vy (·.setIfInBounds j u)) } :=
  I.qg hp ho (js its n j u) (r.set rv j) (by rw[List.length_set];exact hz) s.toks
 by_cases h0:0<=k
 ·have hk:k.toNat=j:=by
   rw[y9 h0 h4] at h1
   exact tV h1
  exact PySem.W.ki_setAt ho h0 (by omega) (by rw[sO, <- hl];exact h4) (by rw[hk];exact ⟨_,I',q⟩)
 ·have hk:(k+(its.toArray.size:Int)).toNat=j:=by
   rw[yO (by omega) h3] at h1
   rw[sO, <- hl]
   exact tV h1
  exact PySem.W.ki_setBack ho (by omega) (by rw[sO, <- hl];exact h3) (by omega) (by rw[hk];exact ⟨_,I',q⟩)
theorem gU (lo hi:Option Int)(n:Nat):(sliceBounds lo hi none n).1=((HT.sIx n 0 lo:Nat):Int)/\(sliceBounds lo hi none n).2.1=((HT.sIx n n hi:Nat):Int)/\(sliceBounds lo hi none n).2.2=1:=by
 refine ⟨?_,?_,rfl⟩
 ·cases lo with
  | none=>simp[sliceBounds,HT.sIx]
  | some i =>
   simp only[sliceBounds,HT.sIx,yR,show (1:Int)>0 by decide,if_true]
   by_cases h:i<0
   ·simp only[h,if_true] <;> omega
   ·simp only[h,if_false] <;> omega
 ·cases hi with
  | none=>simp[sliceBounds,HT.sIx]
  | some i =>
   simp only[sliceBounds,HT.sIx,yR,show (1:Int)>0 by decide,if_true]
   by_cases h:i<0
   ·simp only[h,if_true] <;> omega
   ·simp only[h,if_false] <;> omega
theorem fX (its:List sJ)(lo hi:Option Int):slicePick its.toArray lo hi none=((its.drop (HT.sIx its.length 0 lo)).take (HT.sIx its.length its.length hi-HT.sIx its.length 0 lo)).toArray:=by
 obtain ⟨h1,h2,h3⟩:=gU lo hi its.toArray.size
 unfold slicePick
 rw[h1,h2,h3]
 simp only[sliceRange_one,pick_run,sO] <;> rfl
def rSlL (K:sI):V->Option Int->Option Int->Hp->VK->Prop:=λx lo hi H Q=>∃a xs,x = .ref a/\SqL K H a xs/\∀p,H p=none->Q (.ref p) (upd H p (.lst (gS xs lo hi)))
theorem jV:SlR X (rSlL X.K):=by
 intro pins s σ H x v vl vu lo hi sl Q I rx hs pl pu h
 obtain ⟨a,xs,rfl,hx,q⟩:=h
 cases rx
 obtain ⟨its,r,ht,hz⟩:=I.list hx
 have hlen:=r.length
 refine ⟨"list",_,slot_list_getitem.lookup,ht.isList.typeIs,?_⟩
 refine wpAny_getItem_list_slice ht.isList hs pl pu .none (by simp) ?_ (by rw[sO] <;> omega)
 rw[fX, <- hlen]
 refine ⟨.ref s.heap.objs.size,_,I.laid (t':=s.toks) (o :=.lst (gS xs lo hi)) (λb ob q=>sN _ q) (sS _) ?_,rfl,q _ (I.hok.fresh (sS _))⟩
 exact ⟨tM (eN xs lo hi) hz,_,0,(r.drop (HT.sIx xs.length 0 lo)).take (HT.sIx xs.length xs.length hi-HT.sIx xs.length 0 lo),tR _ rfl⟩
theorem aT:bS X (.builtin "len") (λxs H Q=>∃p ys,xs=[.ref p]/\(SqL X.K H p ys\/SqT X.K H p ys)/\Q (.int ys.length) H):=by
 intro pins s σ H xs us Q I r h
 obtain ⟨p,ys,rfl,hq,q⟩:=h
 obtain ⟨u,rfl,rx⟩:=vals1 r
 cases rx
 have hn:=eg
 rcases hq with hq | hq
 ·obtain ⟨its,r',pl,hz⟩:=I.list hq
  have hlen:=r'.length
  exact Calls.call_len_list pl.isList (by simp only[sO] <;> omega) ⟨.int ys.length,H,I.tok _,⟨s.toks+1,by rw[sO,hlen]⟩,q⟩
 ·obtain ⟨its,r',pl,hz⟩:=I.tuple hq
  have hlen:=r'.length
  exact len_tuple pl (by simp only[sO] <;> omega) ⟨.int ys.length,H,I.tok _,⟨s.toks+1,by rw[sO,hlen]⟩,q⟩
theorem gW:bS X (.type "list") (λxs H Q=>∃p ys,xs=[.ref p]/\(SqL X.K H p ys\/SqT X.K H p ys)/\∀l,H l=none->Q (.ref l) (upd H l (.lst ys))):=by
 intro pins s σ H xs us Q I r h
 obtain ⟨p,ys,rfl,hq,q⟩:=h
 obtain ⟨u,rfl,rx⟩:=vals1 r
 cases rx
 have fin:∀(its:List sJ),Vals ys its->ys.length<=sM->∀(h':Heap) (c':Nat),(∀b o',s.heap.get? b=some o'->h'.get? b=some o') →
   h'.get? s.heap.objs.size=some { cls :=.type "list",dict:=none,data :=.seq its.toArray c',slots := #[] }->EP X pins σ Q (.ref s.heap.objs.size) { s with heap:=h' }:=λits r' hz h' c' kp e =>
  ⟨.ref s.heap.objs.size,_,I.laid (t':=s.toks) kp (sS _) (show aQ X.prog X.w _ h' _ (.lst ys) from ⟨hz,its,c',r',e⟩),rfl,q _ (I.hok.fresh (sS _))⟩
 rcases hq with hq | hq
 ·obtain ⟨its,r',pl,hz⟩:=I.list hq
  have hlen:=r'.length
  obtain ⟨o,ho,hc,n,hd⟩:=pl.isList
  exact call_list_seq p (.inl rfl) ho hc hd (λh' c' kp e=>fin its r' hz h' c' kp e) (by simp only[sO] <;> omega)
 ·obtain ⟨its,r',pl,hz⟩:=I.tuple hq
  have hlen:=r'.length
  obtain ⟨o,ho,hc,n,hd⟩:=pl
  exact call_list_seq p (.inr rfl) ho hc hd (λh' c' kp e=>fin its r' hz h' c' kp e) (by simp only[sO] <;> omega)
theorem fY:bS X (.type "tuple") (λxs H Q=>∃p ys,xs=[.ref p]/\((SqL X.K H p ys/\∀l,H l=none->Q (.ref l) (upd H l (.tup ys)))\/(SqT X.K H p ys/\Q (.ref p) H))):=by
 intro pins s σ H xs us Q I r h
 obtain ⟨p,ys,rfl,h⟩:=h
 obtain ⟨u,rfl,rx⟩:=vals1 r
 cases rx
 rcases h with ⟨hq,q⟩ | ⟨hq,q⟩
 ·obtain ⟨its,r',pl,hz⟩:=I.list hq
  have hlen:=r'.length
  refine call_tuple_list pl.isList (λh' kp =>?_) (by simp only[sO] <;> omega)
  have I1:Inv X pins σ H { s with heap:=h' }:=I.kept (t':=s.toks) kp
  have I2:Inv X pins σ (upd H h'.objs.size (.tup ys)) { s with heap:=h'.push { cls :=.type "tuple",data :=.seq its.toArray } } :=
   I1.laid (t':=s.toks) (λb o e=>sN _ e) (sS _) (show aQ X.prog X.w _ _ _ (.tup ys) from ⟨hz,its,r',dm.new _ _⟩)
  exact ⟨.ref h'.objs.size,_,I2,rfl,q _ (I1.hok.fresh (sS _))⟩
 ·obtain ⟨its,r',pl,hz⟩:=I.tuple hq
  exact call_tuple_same pl ⟨.ref p,H,I,rfl,q⟩
def tyV (K:sI)(T:String)(x:V)(H:Hp):Prop:=match x with
 | .str _=>T = "str"
 | .int _=>T = "int"
 | .ref p=>(T = "list" /\ ∃xs,SqL K H p xs)\/(T = "tuple" /\ ∃o,K.lookup p=some o/\o.cls = .type "tuple" /\ o.dict=none) ∨
   (T = "dict" /\ ((∃kvs,H p=some (.dK kvs))\/∃kvs,H p=some (.dT kvs)))\/(T = "set" /\ ∃S n,H p=some (.set S n))
 | _=>False
theorem qh {pins:List (Addr×Obj)}{σ:St}{H:Hp}{s:sL}{T:String}{x:V}{v:sJ}(I:Inv X pins σ H s)(r:RelV x v)(ty:tyV X.K T x H) :
  s.TypeIs v T/\∀a,v = .ref a->∃ob,s.heap.get? a=some ob/\ob.dict=none:=by
 cases x with
 | str z =>
  obtain ⟨t,rfl⟩:=r
  cases (show T = "str" from ty)
  exact ⟨zw s z t,λ_ e=>nomatch e⟩
 | int i =>
  obtain ⟨t,rfl⟩:=r
  cases (show T = "int" from ty)
  exact ⟨zx s i t,λ_ e=>nomatch e⟩
 | ref p =>
  cases r
  rcases ty with ⟨rfl,xs,hq⟩ | ⟨rfl,o,hk,hc,hd⟩ | ⟨rfl,hk⟩ | ⟨rfl,S,n,hk⟩
  ·obtain ⟨its,_,pl,_⟩:=I.list hq
   refine ⟨pl.isList.typeIs,λa e =>?_⟩
   cases e
   obtain ⟨o,n,e,c,hd,_⟩:=pl
   exact ⟨o,e,hd⟩
  ·refine ⟨⟨o,I.kIn p o hk,hc⟩,λa e =>?_⟩
   cases e
   exact ⟨o,I.kIn _ o hk,hd⟩
  ·have z:∃o,s.heap.get? p=some o/\o.ExactDict:=by
    rcases hk with ⟨kvs,hk⟩ | ⟨kvs,hk⟩
    ·obtain ⟨_,_,_,_,o,_,_,e,ex,_⟩:=I.hok p _ hk
     exact ⟨o,e,ex⟩
    ·obtain ⟨_,_,_,_,o,_,_,e,ex,_⟩:=I.hok p _ hk
     exact ⟨o,e,ex⟩
   obtain ⟨o,e,ex⟩:=z
   refine ⟨⟨o,e,ex.1⟩,λa e2 =>?_⟩
   cases e2
   exact ⟨o,e,ex.2.1⟩
  ·obtain ⟨o,_,_,_,e,ex,_⟩:=I.hok p _ hk
   refine ⟨⟨o,e,ex.1⟩,λa e2 =>?_⟩
   cases e2
   exact ⟨o,e,ex.2.1⟩
 | _=>exact False.elim ty
def tBM (K:sI)(T:String)(r:V->List V->Hp->VK->Prop)(to:TE)(t:TA):TE:=λσ H Q=>to σ H λx H1=>tyV K T x H1/\t σ H1 λxs H2=>r x xs H2 Q
variable  {o e:Expr}{es:List Expr}{to:TE}{t:TA}{name:Str}{apos cpos:Pos}{T id:String}{r:V->List V->Hp->VK->Prop}
theorem jW (pa:PlainAttrs T)(slot:Slot T name id)(hty:typeOf (.builtin id)=pure (.type "method_descriptor"))(hm:MtR X id r)(ho:PE X o to)(ha:PA X (e :: es) t)
  (hbase:attributeBase o name X.env (eval o X.env)=eval o X.env:=by rfl)
  (hfew:((vV cpos (tU (e :: es) X.env)).all (λx => !x.1) && (backToKw cpos (keywordEach [] X.env)).all (λx=>x.1.isSome)
   && decide ((e :: es).length+([]:List Keyword).length+(if ([]:List Keyword).isEmpty then 0 else 1)<30))=true:=by rfl)
  (hline:(apos.endLine == cpos.line)=true:=by rfl) (hs:tU (e :: es) X.env=(false,eval e X.env) :: tU es X.env:=by rfl) (hplain:(vV cpos (tU es X.env)).any (·.1)=false:=by rfl) :
  PE X (.Call (.Attribute o name apos) (e :: es) [] cpos) (tBM X.K T r to t):=by
 intro pins s σ H Q I h
 refine wpAny_Call_method_late hbase hfew hline rfl (thn (ho pins s σ H _ I h) λv s1 ⟨x,H1,I1,r1,ty,q1⟩ =>?_)
 obtain ⟨h1,h2⟩:=qh I1 r1 ty
 refine ⟨T,id,pa,slot,hty,h1,h2,?_⟩
 have hA:=ha cpos pins s1 σ H1 _ I1 q1
 rw[hs] at hA ⊢
 refine xR (by show (false || (vV cpos (tU es X.env)).any (·.1))=false;rw[hplain] <;> rfl) (wF ?_)
 exact thn hA λus s2 ⟨vs,H2,I2,r2,q2⟩=>hm pins s2 σ H2 x vs v us Q I2 r1 r2 q2
end
open PySem PySem.Spec PyProof.Rows
def MtM (X:Cx)(id:String)(r:V->List V->Hp->VK->Prop):Prop :=
 ∀(pins:List (Addr×Obj)) (s:sL) (σ:St) (H:Hp) (x:V) (xs:List V) (v:sJ) (us:List sJ) (Q:VK),Inv X pins σ H s->RelV x v->Vals xs us->r x xs H Q →
  tP (tN X.prog X.w) X.A (call (.builtin id) (v :: us)) (EP X pins σ Q) X.xe s
theorem Vals.one:∀{x:V} {us:List sJ},Vals [x] us->∃u,us=[u]/\RelV x u
 | _,_,.cons r .nil=>⟨_,rfl,r⟩
theorem Vals.rep {xs:List V}{us:List sJ}(h:Vals xs us):∀k:Nat,Vals (tI k xs).flatten (tI k us).flatten
 | 0 =>.nil
 | k+1=>by
  rw[vh,vh,vc,vc]
  exact Vals.append h (Vals.rep h k)
theorem foldl_rep (its:List sJ):∀(k:Nat) (acc:List sJ),
  List.foldl (λx1 x2=>x1++x2) acc.toArray (tI k its.toArray)=(acc++(tI k its).flatten).toArray
 | 0,acc=>by simp
 | k+1,acc=>by
  have e:acc.toArray++its.toArray=(acc++its).toArray:=by simp
  have e2:(acc++its)++(tI k its).flatten=acc++(tI (k+1) its).flatten:=by
   rw[vh,vc,t8]
  rw[<- e2, <- foldl_rep its k (acc++its), <- e,vh,yX]
section
variable  {X:Cx}{pins:List (Addr×Obj)}{σ:St}{H:Hp}{s:sL}{l b:Addr}{xs ys zs:List V}
theorem Inv.rM {its its':List sJ}{n:Nat}{f:Array sJ->Array sJ}{t':Nat}(I:Inv X pins σ H s)(hH:H l=some (.lst xs))
  (e:s.heap.get? l=some { cls :=.type "list",data :=.seq its.toArray n }) (hf:f its.toArray=its'.toArray) (hv:Vals ys its') (hz:ys.length<=sM) :
  Inv X pins σ (upd H l (.lst ys)) { s with heap:=s.heap.update l (vy f),toks:=t' }:=by
 have q:=PySem.IsL.update e f
 rw[hf] at q
 refine I.write (x:=l) (e:=l) (by rw[hH];exact trivial) (.inl rfl) (λb' u hb hu=>(wk s.heap (vy f) (vf hb)).trans hu) ⟨_,q⟩ ?_
 exact ⟨hz,its',_,hv,q⟩
theorem Inv.rN {its:List sJ}{t':Nat}(I:Inv X pins σ H s)(hv:Vals ys its)(hz:ys.length<=sM) :
  Inv X pins σ (upd H s.heap.objs.size (.lst ys)) { s with heap:=s.heap.push { cls :=.type "list",data :=.seq its.toArray },toks:=t' } :=
 I.laid (λ_ _ q=>sN _ q) (sS _) ⟨hz,its,0,hv,tR _ rfl⟩
theorem Inv.fresh (I:Inv X pins σ H s):H s.heap.objs.size=none:=I.hok.fresh (sS _)
theorem Inv.qi (I:Inv X pins σ H s)(hH:H l=some (.lst xs)):xs.length<=sM/\∃(its:List sJ) (n:Nat),Vals xs its/\xs.length=its.length/\s.heap.get? l=some { cls :=.type "list",data :=.seq its.toArray n }:=by
 obtain ⟨z,its,n,r,e⟩:=I.hok l _ hH
 exact ⟨z,its,n,r,r.length,e⟩
theorem l9 {n:Nat}(h:n<=sM):Builtin.List.listTooLong n=false:=by
 unfold Builtin.List.listTooLong
 exact decide_eq_false (by omega)
end
section
variable  {X:Cx}
def nY:V->List V->Hp->VK->Prop:=λx vs H Q=>∃l xs y,x = .ref l/\vs=[y]/\H l=some (.lst xs)/\xs.length<sM/\Q .non (upd H l (.lst (xs++[y])))
theorem kZ:MtM X "list.append" nY:=by
 intro pins s σ H x vs v us Q I rx rv h
 obtain ⟨l,xs,y,rfl,rfl,hH,hz,q⟩:=h
 cases rx
 obtain ⟨u,rfl,ru⟩:=rv.one
 obtain ⟨z,its,n,r,hl,e⟩:=I.qi hH
 refine ye F.slot_list_append ⟨_,e,rfl⟩ F.entry_list_append (F.args_list_append_2 _ _) (PySem.list_append l its.toArray n u (by rw[sO];omega)) ⟨e,?_⟩
 refine ⟨.non,_,I.rM (its':=its++[u]) hH e (by simp) (r.append (.cons ru .nil)) ?_,rfl,q⟩
 rw[tw,xY]
 omega
def rRep:R2:=λx y H Q=>∃l k xs,x = .ref l/\y = .int k/\H l=some (.lst xs) /\ -(2 ^ 63)<=k/\k<2 ^ 63/\xs.length*k.toNat<=sM ∧
 ∀p,H p=none->Q (.ref p) (upd H p (.lst (tI k.toNat xs).flatten))
theorem len_rep {α:Type}(xs:List α)(k:Nat):(tI k xs).flatten.length=k*xs.length:=by
 induction k with
 | zero=>simp
 | succ k ih=>rw[vh,vc,tw,ih,Nat.succ_mul,Nat.add_comm]
theorem qj:OpR X (binaryOp .Mult) rRep:=by
 intro pins s σ H x y v u Q I rx ry h
 obtain ⟨l,k,xs,rfl,rfl,hH,h1,h2,hz,q⟩:=h
 cases rx
 obtain ⟨t,rfl⟩:=ry
 obtain ⟨z,its,n,r,hl,e⟩:=I.qi hH
 have hlen:its.toArray.size*k.toNat<=sM:=by rw[sO, <- hl];exact hz
 have hcap:¬ its.toArray.size*k.toNat>(2 ^ 63-1)/8:=by
  have:(sM:Nat)<=(2 ^ 63-1)/8:=by decide
  omega
 have hfit:¬ (!Builtin.List.listFitsIndex k)=true:=by
  rw[fitsIndex_both h1 h2]
  exact tL
 have hlong:¬ Builtin.List.listTooLong (its.toArray.size*k.toNat)=true:=by
  rw[l9 hlen]
  exact tL
 have hnew:List.foldl (λx1 x2=>x1++x2) #[] (tI (if its.toArray.isEmpty=true then 0 else k.toNat) its.toArray)=(tI k.toNat its).flatten.toArray:=by
  have f0:∀m:Nat,List.foldl (λx1 x2=>x1++x2) #[] (tI m its.toArray)=(tI m its).flatten.toArray:=λm=>by
   have:=foldl_rep its m []
   rw[wb] at this
   exact this
  rw[f0]
  cases its with
  | nil=>simp
  | cons a r'=>rw[if_neg (by simp)]
 refine wpAny_binaryOp_repeat_ref (T := "list") (U := "int") (by decide) ⟨_,e,rfl⟩ (λs'=>zx s' k t) noFill_list_mul F.fills_int_mul yY repeat_list F.slot_int_index.lookup
  (ye yY (zx s k t) F.entry_int_rmul (F.args_int_rmul_2 _ _) (int___rmul___int_list k t l its.toArray n)
   ⟨e,rfl,⟨_,e,rfl⟩,ye F.slot_list_mul ⟨_,e,rfl⟩ F.entry_list_mul (F.args_list_mul_2 _ _) (AutoListH.list___mul___list_int_3 l its.toArray n k t hfit hcap hlong) ⟨e,?_⟩⟩)
 rw[hnew]
 exact ⟨.ref _,_,I.rN (t':=s.toks) (r.rep k.toNat) (by rw[len_rep,Nat.mul_comm];exact hz),rfl,q _ I.fresh⟩
end
section
variable  {prog:tj}{w:ud}{A:ue}{E:sJ->sL->Prop}{s:sL}
end
section
variable  {X:Cx}
end
end L2
namespace Att
open PySem PySem.W PySem.Calls PyProof.Rows
theorem eY {P:Params}{h:Heap}:∀(ns:List Int) (vs:List sJ),WellAll P h vs (ns.map WData.int)->v5 vs ns:=by
 intro ns
 induction ns with
 | nil =>
  intro vs w
  rw[yN] at w
  cases w
  exact .nil
 | cons n ns ih =>
  intro vs w
  rw[ug] at w
  cases w with
  | cons a b =>
   cases a
   exact .cons _ _ (ih _ b)
theorem k7 {l:OpenLaw}{n:Nat}(hn:l.most=some n){P:Params}{h:Heap}{args:List WData}{vals:List sJ}
  (hpre:l.row.toRowW.claim.pre args=true) (hwl:WellAll P h vals args) :
  ∃a vs ns,vals=[tH a]/\args=[WData.list (ns.map WData.int)]/\h.get? a=some { cls :=.type "list",data :=.seq vs.toArray }/\v5 vs ns/\ns.length<=n:=by
 have hsh:WShape.hasAll [] args [.list .int]=true:=(pre_splitW hpre).1
 have hc:l.pre.holds [] { args:=args }=true:=(pre_splitW hpre).2
 obtain ⟨d,r,rfl,h1,h2⟩:=hasAllW_cons hsh
 obtain rfl:=hasAllW_nil h2
 obtain ⟨xs,rfl,h3⟩:=hasW_list h1
 obtain ⟨ns,rfl⟩:=items_int h3
 have hlen:ns.length<=n:=by
  unfold OpenLaw.pre at hc
  have h4:(WTm.not (.lt (.lit (.int (n:Int))) (.len (.arg 0)))).holds [] { args:=[.list (ns.map .int)] }=true:=by
   have h4:=(holds_andW hc).1
   rw[hn] at h4
   exact h4
  have h5:=condW_of h4 (w_not (w_lt w_lit (w_len_list (w_arg rfl))))
  rw[t7] at h5
  refine Nat.le_of_not_lt λq =>?_
  have q':(n:Int)<((ns.length:Nat):Int):=by omega
  first
   | (rw[decide_eq_true q'] at h5;exact absurd h5 (by decide))
   | (simp at h5;omega)
 cases hwl with
 | cons w1 w2 =>
  cases w2
  cases w1 with
  | list ho hall=>exact ⟨_,_,ns,rfl,rfl,ho,eY ns _ hall,hlen⟩
theorem k8 (l:OpenLaw)(args:List WData):l.row.toRowW.claim.post args (.bool true) args=true :=
 postW_of (r:=l.row.toRowW) (X:=(true == true))
  (show WShape.has [] (.bool true) .bool=true by first | rfl | decide | simp[WShape.has,WShape.arms,WShape.armsAll])
  (show (WTm.eq .res (.lit (.bool true))).value [] { args:=args,res:=some (.bool true),after:=args }=some (.bool (true == true)) from w_eq_bool (w_res rfl) w_lit) rfl
theorem iN {l:OpenLaw}{n:Nat}{q:tj}{loose:List Str}{XP:(Str->Option sJ)->Heap->Prop}{YP:ud->Heap->Prop}{d:DefRec}
  (hn:l.most=some n) (hdf:d.params.defaults=[])
  (call:∀(w:ud) (s₀ s₁:sL) (mg mb:Str->Option sJ) (fa:Addr) (o:Obj) (pm cd doc:sJ) (a:Addr) (vs:List sJ) (ns:List Int),
   Ground q loose [] XP w s₀ mg mb s₁.heap->YP w s₁.heap →
   s₁.heap.get? fa=some o->o.data = .func (docDef d.name d.params d.body d.scope pm cd doc)->s₁.heap.CodeRec cd d.name->mg d.name=some (.ref fa) →
   s₁.heap.get? a=some { cls :=.type "list",data :=.seq vs.toArray }->v5 vs ns->ns.length<=n->s₁.gens = #[] →
   yM (tN l.prog w) callerA (.call (.ref fa) ⟨[.ref a],[]⟩) (λr s'=>r = .ok (.ret (.bool true))/\OldK s₁.heap s'.heap/\s'.os=s₁.os/\AllBare s'.gens) s₁) :
  WalkO q loose XP YP l.row.toRowW d [] (λf vs=>PySem.call f vs):=by
 intro w s₀ s₁ mg mb G Y fa o pm cd doc dV kV ho hd hcd hD hmg hg args vals as hpre hlay hrd hwl hlo
 obtain rfl:dV = .none:=Dflts.none hD hdf
 obtain rfl:kV = .none:=Dflts.noKw hD
 obtain ⟨a,vs,ns,rfl,rfl,hobj,hints,hlen⟩:=k7 hn hpre hwl
 refine enter_call (wz (call w s₀ s₁ mg mb fa o pm cd doc a vs ns G Y ho (fd_plain hd) hcd hmg hobj hints hlen hg) λr s' hq =>?_)
 obtain ⟨rfl,h2,h3,h4⟩:=hq
 exact ⟨.inl ⟨.bool true,.bool true,[],rfl,λ_=>rfl,.bool true,k8 l _,λ_=>⟨List.Pairwise.nil,λ_ hm=>(nomatch hm)⟩⟩,h2,h3,h4⟩
section
variable  {prog:tj}{w:ud}{A:ue}{E:sJ->sL->Prop}{s:sL}{K:Frag}
def ledger (h:Heap)(L d:Addr):List (Addr×Obj):=(wL h.objs.size).filterMap λa=>if a=L\/a=d then none else (h.get? a).map λo=>(a,o)
end
end Att
namespace L2
open PySem PySem.Spec PyProof.Rows
theorem eA:∀{vs:List sJ} {ns:List Int},v5 vs ns->Vals (ns.map V.int) vs
 | _,_,.nil =>.nil
 | _,_,.cons n t h =>.cons ⟨t,rfl⟩ (eA h)
def qk (H:Hp):Prop:=∀b,H b=none\/∃o xs,H b=some (.frz o (.lst xs))
theorem ma {P:tj}{w:ud}{K:sI}{mg mb:Str->Option sJ}{CX:CXT}{k:Nat}{fa a:Addr}{fd:uh}{x:Str}{sp:Sp}{s₁:sL}{vs:List sJ}{ns:List Int}
  (KX:K.In s₁.heap) (hns:s₁.heap.Ns tF mg) (hb:s₁.heap.Ns builtinsNs mb) (hbb:∀x:Str,x ≠ "__name__" -> mb x=uv x) (hlim:s₁.heap.NoLimit) (hg:s₁.gens = #[])
  (ha:s₁.heap.get? a=some { cls :=.type "list",data :=.seq vs.toArray }) (hi:v5 vs ns) (hl:ns.length<=sM) (hr:bD k callerA)
  (F:∀base:Heap,K.In base->base.Ns tF mg->aZ P w K mg base CX k fa fd [x] sp) (hbind:∀(s:sL) (u:sJ),BindsTo s fd ⟨[u],[]⟩ [(x,u)])
  (hsp:∀H:Hp,qk H->SqL K H a (ns.map V.int)->sp [.ref a] H (λv _=>v = .bl true) λ_ _ _=>False)
  (hCX:∀H e s',CX [] H s₁ (λ_ _ _=>False) e s'->False) :
  yM (tN P w) callerA (.call (.ref fa) ⟨[.ref a],[]⟩) (λr s'=>r = .ok (.ret (.bool true))/\OldK s₁.heap s'.heap/\s'.os=s₁.os/\AllBare s'.gens) s₁:=by
 have rv:=eA hi
 have lenV:=hi.length
 have core:∀H:Hp,qk H->SqL K H a (ns.map V.int)->HOk P w H s₁.heap->(∀b,H b≠none->b=a)->(H a≠none->K.lookup a=none) →
   yM (tN P w) callerA (.call (.ref fa) ⟨[.ref a],[]⟩) (λr s'=>r = .ok (.ret (.bool true))/\OldK s₁.heap s'.heap/\s'.os=s₁.os/\AllBare s'.gens) s₁:=by
  intro H hO hS hok hA hK
  have base_of:∀{b:Addr} {o:Obj},s₁.heap.get? b=some o->H b=none->(gL s₁.heap H).get? b=some o:=λe n=>lU e n
  have noA:∀{b:Addr} {o:Obj} {es:Array DictEntry} {ep:Nat},s₁.heap.get? b=some o->o.data = .dict es ep->H b=none:=λ{b o es ep} e d=>by
   cases q:H b with
   | none=>rfl
   | some u =>
    have e':b=a:=hA b (by rw[q];simp)
    subst e'
    rw[ha] at e;cases e
    have d':Data.seq vs.toArray _=Data.dict es ep:=d
    cases d'
  have nsK:∀{b:Addr} {m:Str->Option sJ},s₁.heap.Ns b m->(gL s₁.heap H).Ns b m:=λ{b m} ⟨o,es,ep,e,d,r⟩=>⟨o,es,ep,base_of e (noA e d),d,r⟩
  have hKb:K.In (gL s₁.heap H):=λb o e=>base_of (KX b o e) (by
   cases q:H b with
   | none=>rfl
   | some u =>
    have e':b=a:=hA b (by rw[q];simp)
    subst e'
    rw[hK (by rw[q];simp)] at e;cases e)
  have hM:Mod K mg (gL s₁.heap H):=⟨hKb,nsK hns,⟨mb,nsK hb,hbb⟩,let ⟨mc,h1,h2⟩:=hlim;⟨mc,nsK h1,h2⟩⟩
  have e0:jq P w K mg (gL s₁.heap H) callerA [] s₁ H:=⟨rfl,hM,λb o e=>nN e,Nat.le_of_eq (kO _ _),trivial,λb hb=>absurd (show b∈([]:List Addr) from hb) (by simp),hok,.of_eq hg⟩
  refine wz ((F _ hKb (nsK hns)).run callerA [] s₁ H ⟨[.ref a],[]⟩ [.ref a] [.ref a] _ _ hr e0 (hbind s₁ (.ref a)) (.cons rfl .nil) (hsp H hO hS)) λr s' h =>?_
  cases r with
  | error e=>exact (hCX H e s' h).elim
  | ok fl =>
   cases fl with
   | next=>exact False.elim h
   | brk=>exact False.elim h
   | cont=>exact False.elim h
   | ret u =>
    obtain ⟨v,H',os,bare,un,hok',r',q⟩:=h
    have q':v = .bl true:=q
    subst q'
    obtain rfl:u=Value.bool true:=r'
    refine ⟨rfl,OldK.of_keep λb o e =>?_,os,bare⟩
    cases q:H b with
    | none=>exact un.keep b o e q (by intro z;exact absurd (show b∈([]:List Addr) from z) (by simp)) (by simp)
    | some u =>
     rcases hO b with z | ⟨ob,xs,z⟩
     ·rw[q] at z;cases z
     ·have z2:=un.frzs b ob _ z
      obtain ⟨e1,_⟩:=hok b _ z
      obtain ⟨e2,_⟩:=hok' b _ z2
      rw[e] at e1;cases e1
      exact e2
 cases hk:K.lookup a with
 | some o =>
  have e:=KX a o hk
  rw[ha] at e
  cases e
  refine core (λ_=>none) (λ_ =>.inl rfl) (.inr ⟨_,vs.toArray,_,hk,rfl,rfl,rfl,by rw[sO,lenV];exact hl,by simpa using rv⟩) (λb u z=>by have z':(none:Option HO)=some u:=z;cases z') (λb z=>absurd rfl z) λz=>absurd rfl z
 | none =>
  refine core (λb=>if b=a then some (.frz { cls :=.type "list",data :=.seq vs.toArray } (.lst (ns.map V.int))) else none) (λb =>?_) (.inl (.inr ⟨{ cls :=.type "list",data :=.seq vs.toArray },if_pos rfl⟩)) (λb u z =>?_) (λb z =>?_) λ_=>hk
  ·by_cases hb:b=a
   ·exact .inr ⟨_,_,if_pos hb⟩
   ·exact .inl (if_neg hb)
  ·by_cases hb:b=a
   ·have z':=(if_pos hb).symm.trans z
    cases z'
    subst hb
    exact ⟨ha,by rw[t7];exact hl,vs,_,rv,ha⟩
   ·have z':=(if_neg hb).symm.trans z
    cases z'
  ·by_cases hb:b=a
   ·exact hb
   ·exact absurd (if_neg hb) z
open PySem PySem.Spec PyProof.Rows
theorem nZ {l:PySem.W.OpenLaw}{n k:Nat}{q:tj}{loose:List Str}{XP:(Str->Option sJ)->Heap->Prop}{YP:ud->Heap->Prop}{d:DefRec}{K:Params->sI}{CX:ud->CXT}{sp:ud->Sp}{x:Str}
  (hn:l.most=some n) (hn2:n<=sM) (hdf:d.params.defaults=[]) (hr:bD k callerA)
  (hY:∀(w:ud) (h:Heap),YP w h->(K w.params).In h)
  (F:∀(w:ud) (mg:Str->Option sJ) (fa:Addr) (h:Heap),(K w.params).In h->h.Ns tF mg->mg d.name=some (.ref fa) →
   ∃fd:uh,(∀(s:sL) (u:sJ),BindsTo s fd ⟨[u],[]⟩ [(x,u)]) ∧
    ∀base:Heap,(K w.params).In base->base.Ns tF mg->aZ l.prog w (K w.params) mg base (CX w) k fa fd [x] (sp w))
  (hsp:∀(w:ud) (H:Hp) (a:Addr) (ns:List Int),ns.length<=n->qk H->SqL (K w.params) H a (ns.map V.int)->sp w [.ref a] H (λv _=>v = .bl true) λ_ _ _=>False)
  (hCX:∀(w:ud) (H:Hp) (s:sL) (e:sJ) (s':sL),CX w [] H s (λ_ _ _=>False) e s'->False) :
  PySem.W.WalkO q loose XP YP l.row.toRowW d [] (λf vs=>PySem.call f vs):=by
 refine Att.iN hn hdf λw s₀ s₁ mg mb fa o pm cd doc a vs ns G Y ho hd hcd hmg hobj hints hlen hg =>?_
 have KX:=hY w _ Y
 obtain ⟨fd,hb,hF⟩:=F w mg fa _ KX G.T.g hmg
 exact ma KX G.T.g G.T.b G.T.builtins G.T.nolimit hg hobj hints (tM hlen hn2) hr hF hb (λH hO hS=>hsp w H a ns hlen hO hS) λH e s'=>hCX w H s₁ e s'
open PySem PySem.Spec PyProof.Rows
def bF (s:Stmt):Arguments:=match s with
 | .FunctionDef _ a _ _ _ _ _ _ _ _=>a
 | _=>{ posonlyargs:=[],args:=[],vararg:=none,kwonlyargs:=[],kw_defaults:=[],kwarg:=none,defaults:=[] }
def aX (s:Stmt):List Stmt:=match s with
 | .FunctionDef _ _ b _ _ _ _ _ _ _=>b
 | _=>[]
def au (s:Stmt):Scope:=match s with
 | .FunctionDef _ _ _ _ _ _ sc _ _ _=>sc
 | _=>{ kind :=.function,names:=[],isGenerator:=false,isCoroutine:=false }
abbrev CX0:CXT:=λ_ _ _ _ _ _=>False
abbrev E0:XK:=λ_ _ _=>False
theorem rO {X:Cx}:Passes CX0 X E0:=λ_ _ _ _ _ _ _ h=>h.elim
structure Fun (K:sI)(x qual:Str)(st:Stmt)(f:Addr)(fd:uh):Prop where
 ex:∃(oc:sJ) (od:Option Addr) (kV doc pm:sJ) (an:Option Addr) (cdv ct:sJ) (osl:Array (Option sJ)),
  fd=PySem.W.fnOf x qual (bF st) (aX st) (au st) .none kV doc pm an cdv ct/\K.lookup f=some ⟨oc,od,.func fd,osl⟩/\PySem.W.codeIn K cdv qual=true
 kp:PySem.W.keepIn K (.ref f)=true
section
variable  {P:tj}{w:ud}{K:sI}{mg:Str->Option sJ}{base:Heap}
theorem Fun.ok {x qual:Str}{st:Stmt}{f:Addr}{fd:uh}{N ps:List Str}{k:Nat}{sp:Sp}(F:Fun K x qual st f fd)(S:aP N ps (au st))(len:∀vs H Q E,sp vs H Q E->vs.length=ps.length)
  (hbody:∀(cdv:sJ) (A:ue) (outer:List Env) (s:sL) (H:Hp) (vs:List V) (Q:VK) (E:XK),bD k (A.deeper (envOfC qual (au st) s.heap.objs.size f cdv))->sp vs H Q E →
   ∃t,PSs (fz CX0 P w K mg base N qual (au st) f cdv A outer s H E).nox (aX st) t/\t { nx:=λ_ H'=>Q .non H',rt:=Q } (start N vs) H):aZ P w K mg base CX0 (k+1) f fd ps sp:=by
 obtain ⟨oc,od,kV,doc,pm,an,cdv,ct,osl,rfl,lk,hcd⟩:=F.ex
 refine pf lk hcd S len λA outer s H vs Q E hr hsp =>?_
 obtain ⟨t,h,q⟩:=hbody cdv A outer s H vs Q E hr hsp
 exact ⟨t,h.nox,q⟩
theorem Fun.binds {x qual:Str}{st:Stmt}{f:Addr}{fd:uh}{ps:List Str}(F:Fun K x qual st f fd)
  (h:∀(kV doc pm:sJ) (an:Option Addr) (cdv ct:sJ) (us:List sJ),us.length=ps.length->bindArgs (PySem.W.fnOf x qual (bF st) (aX st) (au st) .none kV doc pm an cdv ct) ⟨us,[]⟩=pure (ps.zip us)):Binds K fd ps []:=by
 obtain ⟨oc,od,kV,doc,pm,an,cdv,ct,osl,rfl,lk,hcd⟩:=F.ex
 exact .all (h kV doc pm an cdv ct)
theorem gX {x qual:Str}{st:Stmt}{f:Addr}{oc:sJ}{od an:Option Addr}{osl:Array (Option sJ)}{kV doc pm cdv ct:sJ}(l:K.lookup f=some ⟨oc,od,.func (PySem.W.fnOf x qual (bF st) (aX st) (au st) .none kV doc pm an cdv ct),osl⟩)
  (c:PySem.W.codeIn K cdv qual=true) (k:PySem.W.keepIn K (.ref f)=true):Fun K x qual st f (PySem.W.fnOf x qual (bF st) (aX st) (au st) .none kV doc pm an cdv ct):=⟨⟨oc,od,kV,doc,pm,an,cdv,ct,osl,rfl,l,c⟩,k⟩
end
theorem rP {A:ue}{k:Nat}(hr:bD k A):A.units+1<cLine:=xg (uG (by decide:1<=64) _) hr.units
theorem cZ {n:Nat}(h:n<=1000):n<sM:=xg h (by decide)
section
variable  {X:Cx}
theorem pv (i:Nat){x:Str}{pos:Pos}(hN:X.N[i]? = some x:=by rfl)(hv:Vis X.env.scope x:=by first | exact Or.inl rfl | exact Or.inr (Or.inl rfl) | exact Or.inr (Or.inr rfl))(hd:(x == ("__debug__" : Str))=false:=by decide)
  (hcd:(x == ("__classdict__" : Str))=false:=by decide):PE X (.Name x pos) (pQ i):=pR hN hv hd hcd
end
theorem aR {A B:Prop}(h:B):if false=true then A else B:=by
 rw[if_neg tL]
 exact h
theorem aS {A B:Prop}(h:A):if true=true then A else B:=by
 rw[if_pos rfl]
 exact h
theorem rQ {c A B:Prop}[Decidable c](h1:c->A)(h2:¬ c->B):if c then A else B:=by
 by_cases h:c
 ·rw[if_pos h]
  exact h1 h
 ·rw[if_neg h]
  exact h2 h
theorem ph {c A B:Prop}[Decidable c](hc:c)(h:B):if (!decide c)=true then A else B:=by
 rw[decide_eq_true hc]
 exact aR h
def aB (H H':Hp):Prop:=∀b o,H b=some o->H' b=some o
theorem aB.refl (H:Hp):aB H H:=λ_ _ h=>h
theorem aB.trans {H H1 H2:Hp}(a:aB H H1)(b:aB H1 H2):aB H H2:=λc o h=>b c o (a c o h)
theorem aB.seq {K:sI}{H H':Hp}{a:Addr}{xs:List V}(e:aB H H')(h:SqL K H a xs):SqL K H' a xs:=by
 rcases h with (h | ⟨o,h⟩) | h
 ·exact .inl (.inl (e _ _ h))
 ·exact .inl (.inr ⟨o,e _ _ h⟩)
 ·exact .inr h
end L2
set_option maxHeartbeats 4000000
namespace L2
open PySem PySem.Spec PyProof.Rows
def jX (on:List (Str×NameKind))(N:List Str)(sc:Scope)(N':List Str)(ix:List (Option Nat)):Bool :=
 decide (sc.kind = .function) &&
 sc.names.all (λy=>match y.2 with
  | .local=>decide (sc.names.lookup y.1=some .local)
  | .cell=>false
  | .free=>decide (on.lookup y.1=some .cell) || decide (on.lookup y.1=some .free)
  | _=>true) &&
 decide (ix.length=N'.length) &&
 (ix.zip N').all (λp=>match p.1 with
  | none=>true
  | some j=>decide (N[j]? = some p.2) && decide (sc.names.lookup p.2=some .free))
theorem eO {ns:List (Str×NameKind)}{y:Str}{k:NameKind}(h:ns.lookup y=some k):(y,k)∈ns:=vg h
structure fC (on:List (Str×NameKind))(N:List Str)(sc:Scope)(N':List Str)(ix:List (Option Nat)):Prop where
 kind:sc.kind = .function
 locs:∀y∈sc.names,y.2 = .local->sc.names.lookup y.1=some .local
 nocell:∀y∈sc.names,y.2 ≠ .cell
 frees:∀y∈sc.names,y.2 = .free->on.lookup y.1=some .cell\/on.lookup y.1=some .free
 len:ix.length=N'.length
 slot:∀(i j:Nat) (y:Str),ix[i]? = some (some j)->N'[i]? = some y->N[j]? = some y/\sc.names.lookup y=some .free
theorem fC.of {on:List (Str×NameKind)}{N:List Str}{sc:Scope}{N':List Str}{ix:List (Option Nat)}(h:jX on N sc N' ix=true):fC on N sc N' ix:=by
 unfold jX at h
 rw[uo,uo,uo] at h
 obtain ⟨⟨⟨h1,h2⟩,h3⟩,h4⟩:=h
 rw[vn] at h2 h4
 refine ⟨of_decide_eq_true h1,λy hy e =>?_,λy hy e =>?_,λy hy e =>?_,of_decide_eq_true h3,λi j y e1 e2 =>?_⟩
 ·have q:=h2 y hy
  rw[e] at q
  exact of_decide_eq_true q
 ·have q:=h2 y hy
  rw[e] at q
  cases q
 ·have q:=h2 y hy
  rw[e] at q
  exact ((Bool.or_eq_true _ _).mp q).imp of_decide_eq_true of_decide_eq_true
 ·have q:=h4 (some j,y) (tD (i:=i) (by rw[xp];exact ⟨e1,e2⟩))
  dsimp only at q
  rw[uo] at q
  exact ⟨of_decide_eq_true q.1,of_decide_eq_true q.2⟩
theorem eQ {α β:Type}(f:α -> β -> β)(b:α -> β -> Sem (ForInStep β)):∀(l:List α) (c:β),(∀x∈l,∀d,b x d=pure (.yield (f x d)))->forIn l c b=pure (l.foldl (λd x=>f x d) c)
 | [],c,_=>rfl
 | x :: l,c,h=>by
  rw[List.forIn_cons,h x ur,pure_bind]
  exact eQ f b l (f x c) λy hy=>h y (tS _ hy)
def aH (env:Env)(l:List (Str×NameKind))(c:List (Str×Addr)):List (Str×Addr) :=
 l.foldl (λd y=>if y.2 = .free then (y.1,(env.cells.lookup y.1).getD 0) :: d else d) c
theorem jt {sc:Scope}{env:Env}(h:∀y∈sc.names,y.2 = .free->∃c,env.cells.lookup y.1=some c):closureFor sc env=pure (aH env sc.names []):=by
 simp only[closureFor]
 unfold aH
 rw[eQ (λy d=>if y.2 = .free then (y.1,(env.cells.lookup y.1).getD 0) :: d else d)]
 ·rfl
 ·rintro ⟨n,k⟩ hy d
  by_cases hk:k = .free
  ·subst hk
   obtain ⟨c,e⟩:=h _ hy rfl
   have e':env.cells.lookup n=some c:=e
   simp only[beq_self_eq_true,if_true,cellOf,e',Option.getD_some]
   rfl
  ·have hb:(k == NameKind.free)=false:=by simpa using hk
   simp only[hb,uN,if_false,hk]
theorem bX {env:Env}{y:Str}{c:Addr}:∀(l:List (Str×NameKind)) (d:List (Str×Addr)),(∀z∈l,z.2 = .free->∃c,env.cells.lookup z.1=some c)->(aH env l d).lookup y=some c →
  d.lookup y=some c\/env.cells.lookup y=some c
 | [],d,_,h =>.inl h
 | (n,k) :: l,d,hf,h=>by
  have h':(aH env l (if k = .free then (n,(env.cells.lookup n).getD 0) :: d else d)).lookup y=some c:=h
  have ih:=bX l _ (λz hz=>hf z (tS _ hz)) h'
  by_cases hk:k = .free
  ·subst hk
   rw[if_pos rfl] at ih
   rcases ih with q | q
   ·rw[vZ] at q
    cases hx:(y == n) with
    | true =>
     rw[hx] at q
     obtain ⟨c',e⟩:=hf (n,.free) ur rfl
     have e':env.cells.lookup n=some c':=e
     have q':some ((env.cells.lookup n).getD 0)=some c:=q
     rw[e'] at q'
     have en:y=n:=eq_of_beq hx
     rw[en,e']
     exact .inr q'
    | false =>
     rw[hx] at q
     exact .inl q
   ·exact .inr q
  ·rw[if_neg hk] at ih
   exact ih
theorem cz {env:Env}{y:Str}:∀(l:List (Str×NameKind)) (d:List (Str×Addr)),((y,NameKind.free)∈l\/∃c,d.lookup y=some c)->∃c,(aH env l d).lookup y=some c
 | [],d,h=>by
  rcases h with h | h
  ·cases h
  ·exact h
 | (n,k) :: l,d,h=>by
  show ∃c,(aH env l (if k = .free then (n,(env.cells.lookup n).getD 0) :: d else d)).lookup y=some c
  refine cz l _ ?_
  have old:(∃c,d.lookup y=some c)->∃c,(if k = .free then (n,(env.cells.lookup n).getD 0) :: d else d).lookup y=some c:=λ⟨c,e⟩=>by
   by_cases hk:k = .free
   ·rw[if_pos hk,vZ]
    cases hx:(y == n) with
    | true=>exact ⟨_,rfl⟩
    | false=>exact ⟨c,e⟩
   ·rw[if_neg hk];exact ⟨c,e⟩
  rcases h with h | h
  ·rcases tG.mp h with q | q
   ·cases q
    rw[if_pos rfl,vZ,beq_self_eq_true]
    exact .inr ⟨_,rfl⟩
   ·exact .inl q
  ·exact .inr (old h)
theorem fD {c:Str->NameKind->Bool}{y:Str}:∀l:List (Str×NameKind),(l.map λz=>if c z.1 z.2=true then (z.1,NameKind.cell) else (z.1,z.2)).lookup y=(l.lookup y).map λk=>if c y k=true then NameKind.cell else k
 | []=>rfl
 | (n,k) :: l=>by
  have ih:=fD (c:=c) (y:=y) l
  rw[ug]
  have e:(if c n k=true then (n,NameKind.cell) else (n,k))=(n,if c n k=true then NameKind.cell else k):=by split <;> rfl
  show List.lookup y ((if c n k=true then (n,NameKind.cell) else (n,k)) :: _)=_
  rw[e,vZ,vZ]
  cases hx:(y == n) with
  | true =>
   have en:y=n:=eq_of_beq hx
   subst en
   rfl
  | false=>exact ih
def blk (X:Cx)(sc:Scope)(cl:List (Str×Addr))(C:Addr)(N':List Str)(s:sL)(H:Hp)(fp:List Addr):Cx :=
 { X with N:=N',s₀:=s,H₀:=H,env:=compEnvC sc cl C X.env,outer:=X.stack,ex:=fp,fn:=λ_=>false,pn:=[],xe:=λ_ _=>False }
def PF (X:Cx)(ifs:List Expr)(t:TT):Prop :=
  ∀(pins:List (Addr×Obj)) (s:sL) (σ:St) (H:Hp) (Q:Bool->Hp->Prop),Inv X pins σ H s->t σ H Q →
    tP (tN X.prog X.w) X.A (forIn ifs true λc r=>if r=true then do let ok ← isTrue c X.env (eval c X.env);pure (ForInStep.yield ok) else pure (ForInStep.yield r)) (TP X pins σ Q) X.xe s
theorem ql {X:Cx}:PF X [] (λ_ H Q=>Q true H):=λ_ _ _ H _ I h=>wpAny_tests_nil ⟨H,I,h⟩
def inner (ix:List (Option Nat))(σ:St):St:=ix.map λo=>match o with | none=>none | some j=>(σ[j]?).join
def pk (J:It)(g:TG)(tc:TT)(te:TE)(τ:St)(Q:VK)(H1:Hp):Prop:=∃W:Nat->Nat->St->List V->Hp->Prop,(∃m,W 0 m τ [] H1)/\∀i m τ ys H,W i m τ ys H →
 (J.stop i H/\ys.length<=sM/\∀l,H l=none->Q (.ref l) (upd H l (.lst ys))) ∨
 (J.go i H/\∀x H',J.yld i H x H'->g x τ H' λτ2 H2=>tc τ2 H2 λb H3=>if b=true then te τ2 H3 λy H4=>ys.length<sM/\∃m',m'<m/\W (i+1) m' τ2 (ys++[y]) H4 else ∃m',m'<m/\W (i+1) m' τ2 ys H3)
def pq (ix:List (Option Nat))(wi:TI)(g:TG)(tc:TT)(te:TE):TE:=λσ H Q=>wi σ H λJ H1=>pk J g tc te (inner ix σ) Q H1
section
variable  {X:Cx}{sc:Scope}{N':List Str}{ix:List (Option Nat)}{pins:List (Addr×Obj)}{σ:St}{H:Hp}{s:sL}
theorem qm (I:Inv X pins σ H s)(K:fC X.env.scope.names X.N sc N' ix){C:Addr}{fp:List Addr}(hC:s.heap.objs.size<=C)(f:∀b∈fp,fw X pins H b)(fl:∀b∈fp,b<s.heap.objs.size) :
  (blk X sc (aH X.env sc.names []) C N' s H fp).Ok:=by
 have hcl:∀y∈sc.names,y.2 = .free->∃c,X.env.cells.lookup y.1=some c:=λy hy e=>I.ok.has y.1 (K.frees y hy e)
 have up:∀y c,(aH X.env sc.names []).lookup y=some c->X.env.cells.lookup y=some c:=λy c e=>by
  rcases bX sc.names [] hcl e with q | q
  ·cases q
  ·exact q
 have nfs:∀b∈fp,b∉frs X.stack:=λb hb z=>by
  rcases tG.mp (I.gM b z) with q | q
  ·exact (f b hb).2.1 q
  ·exact (f b hb).2.2.1 q
 refine ⟨I.ok.mod,K.kind,I.ok.glob,I.ok.blt,hC,λy z c h1 h2=>I.ok.inj y z c (up _ _ h1) (up _ _ h2),λy hy =>?_,(λy c h=>nomatch h),I.ok.hd,I.ok.frames,.inl rfl,λb hb =>?_,λb o e=>I.bs b o e,tM I.ok.bsz I.sz,λb o e hb =>?_,nfs,I.stack,I.fb⟩
 ·have hy':(relabel sc X.env).names.lookup y=some .cell\/(relabel sc X.env).names.lookup y=some .free:=hy
  have em:=fD (c:=λn k=>k == .free && X.env.scope.kind == .function && X.env.kindOf n == some .cell) (y:=y) sc.names
  have em':(relabel sc X.env).names.lookup y=_:=em
  rw[em'] at hy'
  cases hq:sc.names.lookup y with
  | none=>rw[hq] at hy';rcases hy' with q | q <;> cases q
  | some k =>
   have km:=eO hq
   have hk:k = .free:=by
    rw[hq] at hy'
    simp only[xZ,Option.some.injEq] at hy'
    by_cases hc:(k == .free && X.env.scope.kind == .function && X.env.kindOf y == some .cell)=true
    ·rw[uo,uo] at hc
     exact by simpa using hc.1.1
    ·rw[if_neg hc] at hy'
     rcases hy' with q | q
     ·exact absurd q (K.nocell _ km)
     ·exact q
   subst hk
   exact cz sc.names [] (.inl km)
 ·exact ⟨tW (sT (fl b hb) hC),λy c e=>(f b hb).2.2.2.2.1 y c (up y c e)⟩
 ·rcases (f b hb).2.2.2.1 with q | q
  ·exact I.ok.noex b o e q
  ·exact absurd (sT (sV e) (tM I.ok.bsz q)) (ux _)
theorem n6 (I:Inv X pins σ H s)(K:fC X.env.scope.names X.N sc N' ix){C:Addr}{fp:List Addr}(hC:s.heap.objs.size<=C)(f:∀b∈fp,fw X pins H b)(fl:∀b∈fp,b<s.heap.objs.size)
  {h1:Heap} {t:Nat} {m:Str->Option sJ} (k:∀b o,s.heap.get? b=some o->h1.get? b=some o) (ns:h1.Ns C m) :
  Inv (blk X sc (aH X.env sc.names []) C N' s H fp) [] (inner ix σ) H { s with heap:=h1,toks:=t }:=by
 have hcl:∀y∈sc.names,y.2 = .free->∃c,X.env.cells.lookup y.1=some c:=λy hy e=>I.ok.has y.1 (K.frees y hy e)
 have up:∀y c,(aH X.env sc.names []).lookup y=some c->X.env.cells.lookup y=some c:=λy c e=>by
  rcases bX sc.names [] hcl e with q | q
  ·cases q
  ·exact q
 refine ⟨qm I K hC f fl,rfl,I.bare,Un.kept k,⟨m,ns,λi y v e1 e2 e3 =>?_⟩,λy c e =>?_,I.hok.fresh hC,λy c e=>I.freeC y c (up y c e),(λp hp=>nomatch hp),I.hok.kept k,?_⟩
 ·have e2':(ix.map λo=>match o with | none=>none | some j=>(σ[j]?).join)[i]? = some (some v):=e2
  rw[vS] at e2'
  cases hi:ix[i]? with
  | none=>rw[hi] at e2';cases e2'
  | some o =>
   cases o with
   | none=>rw[hi] at e2';cases e2'
   | some j =>
    rw[hi] at e2'
    have e4:(σ[j]?).join=some v:=tV e2'
    have e5:σ[j]? = some (some v):=by
     cases hj:σ[j]? with
     | none=>rw[hj] at e4;cases e4
     | some z=>rw[hj] at e4;rw[show z=some v from e4]
    obtain ⟨n1,n2⟩:=K.slot i j y hi e1
    have mem:=eO n2
    have kc:X.env.kindOf y=some .cell\/X.env.kindOf y=some .free:=K.frees _ mem rfl
    obtain ⟨m',_,hl⟩:=I.loc
    obtain ⟨u,r,l⟩:=hl j y v n1 e5 (.inr kc)
    refine ⟨u,r,?_⟩
    rcases l with ⟨q,_⟩ | ⟨_,c,q,z⟩
    ·rcases kc with kc | kc <;> (rw[kc] at q;cases q)
    ·obtain ⟨c',hc'⟩:=cz (env:=X.env) (y:=y) sc.names [] (.inl mem)
     have:=up y c' hc'
     rw[q] at this
     cases this
     refine .inr ⟨?_,c,hc',z.keeps k⟩
     have em:=fD (c:=λn k=>k == .free && X.env.scope.kind == .function && X.env.kindOf n == some .cell) (y:=y) sc.names
     have em':(relabel sc X.env).names.lookup y=_:=em
     rcases kc with kc | kc
     ·left
      show (relabel sc X.env).names.lookup y=some .cell
      rw[em',n2]
      simp only[xZ,kc,I.ok.kind]
      rfl
     ·right
      show (relabel sc X.env).names.lookup y=some .free
      rw[em',n2]
      simp only[xZ,kc,I.ok.kind]
      rfl
 ·obtain ⟨v,z⟩:=I.cell y c (up y c e)
  exact ⟨v,z.keeps k⟩
 ·show (ix.map _).length=N'.length
  rw[t7]
  exact K.len
end
open PySem PySem.Spec PyProof.Rows
theorem ju {prog:tj}{w:ud}{A:ue}{R:Result->sL->Prop}{s:sL}{elt target iter:Expr}{ifs:List Expr}{sc:Scope}{pos:Pos}{it acc:sJ}{env:Env}(J:Nat->sL->Prop)
    (turn:∀n s,J n s->tP (tN prog w) A (pyNext it) (λr s1=>match r with
      | none=>R (.ok .next) s1
      | some v=>tP (tN prog w) A (letOwnedTupleGo target it v) (λ_ s2=>tP (tN prog w) A (assign target env v) (λ_ s3 =>
          tP (tN prog w) A (forIn ifs true λc r=>if r=true then do let ok ← isTrue c env (eval c env);pure (ForInStep.yield ok) else pure (ForInStep.yield r)) (λok s4 =>
            if ok=true then tP (tN prog w) A (eval elt env) (λx s5=>tP (tN prog w) A (call (.builtin "list.append") [acc,x]) (λ_ s6=>∃m,m<n/\J m s6) (λ_ _=>False) s5) (λ_ _=>False) s4
            else ∃m,m<n/\J m s4) (λ_ _=>False) s3) (λ_ _=>False) s2) (λ_ _=>False) s1) (λ_ _=>False) s)
    (n:Nat) (h:J n s):yM (tN prog w) A (.compLoop (.ListComp elt [⟨target,iter,ifs,0⟩] sc pos) 0 it acc env) R s:=by
  refine codeAny_loop rfl J (λk t q =>?_) n h
  show tP _ A (Sem.onRaise (compTurn (.ListComp elt [⟨target,iter,ifs,0⟩] sc pos) 0 it acc env) (λx=>do noteFrame x env;theTreesLotGoes x)) _ _ t
  refine wpAny_noted ?_
  rw[compTurn_list]
  have no:∀{E:sJ->sL->Prop} (x:sJ) (t:sL),False->E x t:=λ_ _ z=>z.elim
  refine sP (wI (sP (uw (turn k t q) (λr s1 h1 =>?_) no)))
  cases r with
  | none=>exact tQ h1
  | some v =>
    refine sP (uw h1 (λ_ s2 h2=>sP (uw h2 (λ_ s3 h3=>sP (uw h3 (λok s4 h4 =>?_) no)) no)) no)
    cases ok with
    | false=>exact tQ ⟨rfl,h4⟩
    | true=>exact sP (sP (uw h4 (λx s5 h5=>sP (uw h5 (λ_ s6 h6=>tQ (tQ ⟨rfl,h6⟩)) no)) no))
section
variable  {X:Cx}
def n8 (X:Cx)(pins:List (Addr×Obj))(σ:St)(Q:VK)(use:Option (sJ->Sem Unit))(Q2:sJ->sL->Prop):Prop :=
 ∀(s4:sL) (H3:Hp) (acc C:Addr) (ys:List V) (oC:Obj),Inv X (pins++[(C,oC)]) σ (upd H3 acc (.lst ys)) s4->(∃m,s4.heap.Ns C m)->X.s₀.heap.objs.size<=C->(∀x c,X.env.cells.lookup x=some c->c≠C)->(∀p∈X.pn++pins,p.1≠C)->Q (.ref acc) (upd H3 acc (.lst ys)) →
  compPost (tN X.prog X.w) X.A X.xe use Q2 (.ref acc) C (.ok .next) s4
theorem k9 {elt target iter:Expr}{ifs:List Expr}{sc:Scope}{pos ps:Pos}{wi:TI}{g:TG}{tc:TT}{te:TE}{N':List Str}{ix:List (Option Nat)}{use:Option (sJ->Sem Unit)}{Q2:sJ->sL->Prop}
  {pins:List (Addr×Obj)} {s:sL} {σ:St} {H:Hp} {Q:VK}
  (hcalm:X.calm=true) (hi:PI X target iter wi) (hk:jX X.env.scope.names X.N sc N' ix=true)
  (hg:∀cl C s H fp,PG (blk X sc cl C N' s H fp) target g) (hc:∀cl C s H fp,PF (blk X sc cl C N' s H fp) ifs tc) (he:∀cl C s H fp,PE (blk X sc cl C N' s H fp) elt te)
  (hs:∀x,foldedSetIterable iter X.env x=pure x) (fin:n8 X pins σ Q use Q2) (I:Inv X pins σ H s) (h:pq ix wi g tc te σ H Q) :
  tP (tN X.prog X.w) X.A (comprehension (.ListComp elt [⟨target,iter,ifs,0⟩] sc pos) sc X.env ps (newList []) false (eval iter X.env) use) Q2 X.xe s:=by
 have K:=fC.of hk
 have hcl:∀y∈sc.names,y.2 = .free->∃c,X.env.cells.lookup y.1=some c:=λy hy e=>I.ok.has y.1 (K.frees y hy e)
 refine wpAny_comprehension_free rfl hs (jt hcl) K.kind K.locs (thn (hi pins s σ H _ I h) λv s1 h1=>thn h1 λitv s2 h2 =>?_)
 obtain ⟨it,fp,tn,J,H2,e,I2,T,st2,f2,W,⟨m0,w0⟩,turn⟩:=h2
 subst e
 refine xE (wpAny_newFunctionEnv K.nocell (by intro y hy;simp at hy) (λh1 ns1 sb1 =>?_) K.kind)
 dsimp only at ns1 sb1 ⊢
 generalize hP:s2.heap.push { cls :=.type "list",dict:=none,data :=.seq ([]:List sJ).toArray }=G at ns1 sb1 ⊢
 have sG:G.objs.size=s2.heap.objs.size+1:=by rw[<- hP,yj]
 have fl:∀b∈fp,b<s2.heap.objs.size:=λb hb=>by
  obtain ⟨o,e,_⟩:=T.obj _ _ st2 b hb
  exact sV e
 have hC:s2.heap.objs.size<=G.objs.size:=by rw[sG];exact wN _
 have aC:s2.heap.objs.size≠G.objs.size:=by rw[sG];exact tW (yS _)
 have old:∀b o,s2.heap.get? b=some o->h1.get? b=some o:=λb o e=>by
  have lt:=sV e
  have ne:b≠G.objs.size:=tW (sT lt hC)
  rw[sb1.2 b ne]
  exact sN _ (hP ▸ sN _ e)
 have accO:h1.PlainList s2.heap.objs.size #[]:=⟨_,by
  rw[sb1.2 _ aC]
  exact sN _ (hP ▸ tR _ rfl)⟩
 have IB:=n6 (t:=s2.toks+([]:List (Str×sJ)).length) I2 K hC f2 fl old ns1
 have up:∀y c,(aH X.env sc.names []).lookup y=some c->X.env.cells.lookup y=some c:=λy c e=>by
  rcases bX sc.names [] hcl e with q | q
  ·cases q
  ·exact q
 have accNotCell:∀y c,(aH X.env sc.names []).lookup y=some c->c≠s2.heap.objs.size:=λy c e z=>by
  obtain ⟨v,q⟩:=I2.cell y c (up y c e)
  exact absurd q.lt (by rw[z];exact ux _)
 have accFs:s2.heap.objs.size∉frs X.stack:=λz=>by
  rcases tG.mp (I2.gM _ z) with q | q
  ·exact absurd I2.lt (by rw[<- q];exact ux _)
  ·exact I2.pP (sS _) q
 have accFp:s2.heap.objs.size∉fp:=λz=>absurd (fl _ z) (ux _)
 have stat:∀{H':Hp} {ob:Obj},(∀b∈fp,H' b=none)->∀b∈fp,fw (blk X sc (aH X.env sc.names []) G.objs.size N' s2 H2 fp) [(s2.heap.objs.size,ob)] H' b:=λ{H' ob} hn b hb=>by
  refine ⟨hn b hb,tW (sT (fl b hb) hC),IB.ok.exfs b hb,.inl hb,λy c e=>(f2 b hb).2.2.2.2.1 y c (up y c e),λp hp z =>?_⟩
  have ep:p=(s2.heap.objs.size,ob):=by simpa [blk] using hp
  subst ep
  exact accFp (by rw[show s2.heap.objs.size=b from z];exact hb)
 have accPin:∀{pl:List (Addr×Obj)} {σ':St} {H':Hp} {s':sL} {its:Array sJ} {n:Nat},Inv (blk X sc (aH X.env sc.names []) G.objs.size N' s2 H2 fp) pl σ' H' s'->s'.heap.get? s2.heap.objs.size=some { cls :=.type "list",data :=.seq its n } →
   H' s2.heap.objs.size=none->Inv (blk X sc (aH X.env sc.names []) G.objs.size N' s2 H2 fp) [(s2.heap.objs.size,{ cls :=.type "list",data :=.seq its n })] σ' H' s':=λ{pl σ' H' s' its n} J' e nn=>J'.dE λp hp=>by
  have ep:p=(s2.heap.objs.size,({ cls :=.type "list",data :=.seq its n }:Obj)):=by simpa [blk] using hp
  subst ep
  exact ⟨e,nn,aC,accFs,λv z=>nomatch z⟩
 have loop:yM (tN X.prog X.w) X.A (.compLoop (.ListComp elt [⟨target,iter,ifs,0⟩] sc pos) 0 (.ref it) (.ref s2.heap.objs.size) (compEnvC sc (aH X.env sc.names []) G.objs.size X.env))
   (compPost (tN X.prog X.w) X.A X.xe use Q2 (.ref s2.heap.objs.size) G.objs.size) { s2 with heap:=h1,toks:=s2.toks+([]:List (Str×sJ)).length }:=by
  refine ju (λn s'=>∃i ys its nn σ' H',Inv (blk X sc (aH X.env sc.names []) G.objs.size N' s2 H2 fp) [(s2.heap.objs.size,{ cls :=.type "list",data :=.seq its nn })] σ' H' s'/\Vals ys its.toList/\tn i s'.heap/\(∀b∈fp,H' b=none)/\W i n σ' ys H')
   (λn s3 h3 =>?_) m0 ?_
  ·obtain ⟨i,ys,its,nn,σ3,H3,I3,r3,st3,fr3,w3⟩:=h3
   obtain ⟨e3,a3,_,_,_⟩:=I3.pin (s2.heap.objs.size,{ cls :=.type "list",data :=.seq its nn }) (by simp[blk])
   rcases turn i n σ3 ys H3 w3 with ⟨stop,zl,q3⟩ | ⟨go,step⟩
   ·refine thn (T.done (blk X sc (aH X.env sc.names []) G.objs.size N' s2 H2 fp) rfl rfl rfl hcalm i _ s3 σ3 H3 _ I3 (stat fr3) st3 stop) λr s4 ⟨hr,I4⟩ =>?_
    subst hr
    obtain ⟨e4,a4,_,_,_⟩:=I4.pin (s2.heap.objs.size,{ cls :=.type "list",data :=.seq its nn }) (by simp[blk])
    obtain ⟨m4,n4,_⟩:=I4.loc
    obtain ⟨oC,es4,ep4,c4,d4,r4⟩:=id n4
    have ltA:∀b o,s2.heap.get? b=some o->b≠s2.heap.objs.size:=λb o e=>tW (sV e)
    have B:=I4.base
    have hok:HOk X.prog X.w (upd H3 s2.heap.objs.size (.lst ys)) s4.heap:=λb o e=>by
     by_cases hb:b=s2.heap.objs.size
     ·subst hb
      rw[ae] at e
      cases e
      exact ⟨zl,its.toList,nn,r3,e4⟩
     ·rw[ai hb] at e
      refine (I4.hok b o e).bT (λc u hc q=>q) (λc q =>?_) (λc xs q =>?_)
      ·rw[ai (aj q a4)];exact q
      ·rw[ai (aj q a4)];exact q
    have I5:Inv X pins σ (upd H3 s2.heap.objs.size (.lst ys)) s4:=by
     refine I2.o6 (ch:=fp) I4.os ⟨λb o e n hb hx=>B.keep b o e n hb hx,λb o e n hb hx=>B.slot b o e n hb hx,λb o e n hx =>?_,λb o e hx=>B.there b o e hx,λb xs e =>?_,λb o u e =>?_,λb ps e =>?_⟩ hok I4.bare (λb hb =>?_)
     ·rw[ai (ltA b o e)];exact B.free b o e n hx
     ·have q:=B.tups b xs e
      rw[ai (aj q a4)];exact q
     ·have q:=B.frzs b o u e
      rw[ai (aj q a4)];exact q
     ·obtain ⟨more,q⟩:=B.tbls b ps e
      exact ⟨more,by rw[ai (aj q a4)];exact q⟩
     ·obtain ⟨g0,g1,g2,g3,g4,g5⟩:=f2 b hb
      exact ⟨g3,g1,g4,g5⟩
    have cL:G.objs.size≠X.env.locals:=xW (sT I2.lt hC)
    have I6:Inv X (pins++[(G.objs.size,oC)]) σ (upd H3 s2.heap.objs.size (.lst ys)) s4:=I5.dE λp hp=>by
     rcases tO.mp hp with q | q
     ·exact I5.pin p (t4 _ q)
     ·have ep:p=(G.objs.size,oC):=by simpa using q
      subst ep
      exact ⟨c4,by rw[ai (vf aC)];exact I4.free,cL,I2.pP hC,λv z=>by rw[d4] at z;cases z⟩
    refine fin s4 H3 s2.heap.objs.size G.objs.size ys oC I6 ⟨m4,n4⟩ (tM I2.sz hC) (λy c e z =>?_) (λp hp z =>?_) (q3 _ a4)
    ·obtain ⟨v,q⟩:=I2.cell y c e
     exact absurd (sT q.lt hC) (by rw[z];exact ux _)
    ·exact absurd (sT (sV (I2.pin p hp).1) hC) (by rw[z];exact ux _)
   ·refine thn (T.item (blk X sc (aH X.env sc.names []) G.objs.size N' s2 H2 fp) rfl rfl rfl hcalm i _ s3 σ3 H3 _ I3 (stat fr3) st3 go) λr s4 ⟨u,hr,h4⟩ =>?_
    subst hr
    refine thn h4 λ_ s5 ⟨x,H5,I5,r5,y5,st5,fr5⟩ =>?_
    have I5':=I5.pinned (stat fr5) (T.obj _ _ st5)
    refine thn (hg _ _ _ _ _ _ s5 σ3 H5 x u _ I5' r5 (step x H5 y5)) λ_ s6 ⟨σ6,H6,I6,q6⟩ =>?_
    refine thn (hc _ _ _ _ _ _ s6 σ6 H6 _ I6 q6) λok s7 ⟨H7,I7,q7⟩ =>?_
    have back:∀{σ7:St} {H7:Hp} {s7:sL},Inv (blk X sc (aH X.env sc.names []) G.objs.size N' s2 H2 fp) ([(s2.heap.objs.size,{ cls :=.type "list",data :=.seq its nn })]++dq fp s5.heap) σ7 H7 s7->tn (i+1) s7.heap/\∀b∈fp,H7 b=none:=λJ7 =>
     ⟨T.keep _ _ _ st5 λb hb o e=>(J7.pin (b,o) (t4 _ (t4 _ (b7 hb e)))).1,λb hb=>by
      obtain ⟨o,e,d⟩:=T.obj _ _ st5 b hb
      exact (J7.pin (b,o) (t4 _ (t4 _ (b7 hb e)))).2.1⟩
    cases ok with
    | false =>
     rw[if_neg (by decide)] at q7
     obtain ⟨m',lm,w7⟩:=q7
     show ∃m,m<n/\_
     exact ⟨m',lm,i+1,ys,its,nn,σ6,H7,I7.cO,r3,(back I7).1,(back I7).2,w7⟩
    | true =>
     rw[if_pos rfl] at q7
     refine thn (he _ _ _ _ _ _ s7 σ6 H7 _ I7 q7) λz s8 ⟨y,H8,I8,r8,lz,m',lm,w8⟩ =>?_
     obtain ⟨e8,a8,_,_,_⟩:=I8.pin (s2.heap.objs.size,{ cls :=.type "list",data :=.seq its nn }) (by simp[blk])
     have sz:its.size<=sM:=by
      have l:ys.length=its.size:=r3.length.trans sU
      rw[<- l]
      exact xf lz
     refine wpAny_list_append_plain ⟨nn,e8⟩ (λh' pl' sb' =>?_) sz
     obtain ⟨n9,e9⟩:=pl'
     have I8p:Inv (blk X sc (aH X.env sc.names []) G.objs.size N' s2 H2 fp) (dq fp s5.heap) σ6 H8 s8:=I8.dE λp hp=>I8.pin p (t4 _ (t4 _ hp))
     have I9:=I8p.turned (it:=s2.heap.objs.size) (h':=h') (t':=s8.toks) (λb o ne e=>by rw[sb'.2 b ne];exact e) a8 aC (.inr (sS _)) (λy c e=>accNotCell y c e) (λp hp z=>by
      have hp':p∈dq fp s5.heap:=by simpa [blk] using hp
      exact accFp (by rw[<- z];exact (gi hp').1))
     have b9:tn (i+1) h'/\∀b∈fp,H8 b=none :=
      ⟨T.keep _ _ _ st5 λb hb o e=>(I9.pin (b,o) (t4 _ (b7 hb e))).1,(back I8).2⟩
     exact ⟨m',lm,i+1,ys++[y],its.push z,n9,σ6,H8,accPin I9 e9 a8,by rw[vd];exact r3.append (.cons r8 .nil),b9.1,b9.2,w8⟩
  ·obtain ⟨n0,e0⟩:=accO
   exact ⟨0,[], #[],n0,_,H2,accPin IB e0 (I2.hok.fresh (sS _)),.nil,T.keep _ _ _ st2 λb hb o e=>old b o e,λb hb=>(f2 b hb).1,w0⟩
 exact codeAny_compStart_list loop (T.self _ 0 _ _ _ (T.keep _ _ _ st2 λb hb o e=>old b o e) loop)
theorem oa {elt target iter:Expr}{ifs:List Expr}{sc:Scope}{pos:Pos}{wi:TI}{g:TG}{tc:TT}{te:TE}(N':List Str)(ix:List (Option Nat))
  (hcalm:X.calm=true) (hi:PI X target iter wi) (hk:jX X.env.scope.names X.N sc N' ix=true)
  (hg:∀cl C s H fp,PG (blk X sc cl C N' s H fp) target g) (hc:∀cl C s H fp,PF (blk X sc cl C N' s H fp) ifs tc) (he:∀cl C s H fp,PE (blk X sc cl C N' s H fp) elt te)
  (hs:∀x,foldedSetIterable iter X.env x=pure x:=by intro _;rfl):PE X (.ListComp elt [⟨target,iter,ifs,0⟩] sc pos) (pq ix wi g tc te):=by
 intro pins s σ H Q I h
 rw[eval_ListComp]
 refine k9 hcalm hi hk hg hc he hs (λs4 H3 acc C ys oC I4 ns hC hc hp q =>?_) I h
 obtain ⟨m,ns⟩:=ns
 refine ⟨m,ns,λh' sb=>⟨.ref acc,_,?_,rfl,q⟩⟩
 obtain ⟨_,n0,n1,n2,_⟩:=I4.pin (C,oC) (by simp)
 exact (I4.cO).turned (it:=C) (h':=h') (t':=s4.toks) (λb o ne e=>by rw[sb.2 b ne];exact e) n0 n1 (.inr hC) hc hp
end
open PySem PySem.Spec PyProof.Rows
section
variable  {X:Cx}
theorem gY {j:Int}(h0:0<j)(h:j<2 ^ 200):j.natAbs.log2<9000:=by
 have h1:j.natAbs<2 ^ 200:=by omega
 have h2:j.natAbs.log2<200:=(Nat.log2_lt (by omega)).mpr h1
 omega
def rR (_ j:Int):Prop:=0<j/\j<2 ^ 200
theorem gZ:bS X (.builtin "divmod") (λxs H Q=>∃i j,xs=[.int i,.int j]/\rR i j/\∀p,H p=none->Q (.ref p) (upd H p (.tup [.int (i/j),.int (i%j)]))):=by
 intro pins s σ H xs us Q I r h
 obtain ⟨i,j,rfl,⟨h1,h2⟩,q⟩:=h
 obtain ⟨u,w',rfl,⟨t,rfl⟩,⟨t',rfl⟩⟩:=vals2 r
 refine divmod_int (by omega) ?_ (.inl (PyProof.noPylong_of_log2 (gY h1 h2)))
 rw[w4 i (by omega),w5 i (by omega)]
 refine ⟨.ref s.heap.objs.size,_,?_,rfl,q _ I.fresh⟩
 refine I.laid (λb o e=>sN _ e) (sS _) ⟨by simp only[tY,vK];rw[y8];decide,[.int (i/j) s.toks,.int (i%j) (s.toks+1)],.cons ⟨_,rfl⟩ (.cons ⟨_,rfl⟩ .nil),?_⟩
 exact ⟨_,tR s.heap rfl,⟨rfl,rfl⟩,0,rfl⟩
def rS (K:sI):R2:=λx y H Q=>∃l b xs zs,x = .ref l/\y = .ref b/\SqL K H l xs/\SqL K H b zs/\xs.length+zs.length<=sM/\∀p,H p=none->Q (.ref p) (upd H p (.lst (xs++zs)))
theorem dH:OpR X (binaryOp .Add) (rS X.K):=by
 intro pins s σ H x y v u Q I rx ry h
 obtain ⟨l,b,xs,zs,rfl,rfl,hH,hB,hz,q⟩:=h
 cases rx
 cases ry
 obtain ⟨its,r,e,z⟩:=I.list hH
 obtain ⟨its2,r2,e2,z2⟩:=I.list hB
 obtain ⟨⟨c1,d1,da1,sl1⟩,n,e,k1,k2,k3⟩:=e
 obtain ⟨⟨c2,d2,da2,sl2⟩,n2,e2,g1,g2,g3⟩:=e2
 simp only at k1 k3 g1 g3
 subst k1 k3 g1 g3
 have l1:=r.length
 have l2:=r2.length
 have ea:its.toArray++its2.toArray=(its++its2).toArray:=by simp
 refine concat_meets ⟨_,e,rfl⟩ ⟨_,e2,rfl⟩ noFill_list_add seq_list_add PySem.F.slot_list_add PySem.F.entry_list_add
  (PySem.F.args_list_add_2 _ _) (list_addW l b its.toArray its2.toArray n n2 d1 d2 sl1 sl2 (by rw[sO,sO];omega)) ⟨e,e2,?_⟩
 rw[ea]
 exact ⟨.ref _,_,I.rN (t':=s.toks) (r.append r2) (by rw[tw];omega),rfl,q _ I.fresh⟩
theorem cQ:bS X (.builtin "isinstance") (λxs H Q=>∃x T t b,xs=[x,.ty T]/\bW X.K H x t/\PySem.W.kitOne X.K t (.type T)=some b/\Q (.bl b) H):=by
 intro pins s σ H xs us Q I r h
 obtain ⟨x,T,t,b,rfl,ty,e,q⟩:=h
 obtain ⟨u,w',rfl,ru,rw'⟩:=vals2 r
 cases (show w'=v7 T from rw')
 exact kX I ru ty e λtk=>⟨.bl b,H,I.tok tk,rfl,q⟩
end
def rT (k:Nat)(tc:TT)(te:TE)(τ:St)(Pv:Nat->List V->Hp->Prop)(i:Nat)(x:V)(ys:List V)(H:Hp):Prop :=
 ∀(R1:V->Hp->Prop) (R0:Hp->Prop),(∀y H4,Pv (i+1) (ys++[y]) H4->R1 y H4)->(∀H3,Pv (i+1) ys H3->R0 H3)->tc (τ.set k (some x)) H λb H3=>if b=true then te (τ.set k (some x)) H3 R1 else R0 H3
theorem jv {K:sI}{a:Addr}{xs:List V}{k:Nat}{tc:TT}{te:TE}{τ:St}{H:Hp}{Q:VK}(Pv:Nat->List V->Hp->Prop)(h0:Pv 0 [] H)(hz:xs.length<=sM)
  (hl:∀i ys H,i<=xs.length->Pv i ys H->SqL K H a xs) (hs:∀i x ys H,xs[i]? = some x->ys.length<=i->Pv i ys H->rT k tc te τ Pv i x ys H)
  (hd:∀ys H,ys.length<=xs.length->Pv xs.length ys H->∀l,H l=none->Q (.ref l) (upd H l (.lst ys))) :
  pk (Itl K a) (lW k) tc te τ Q H:=by
 refine ⟨λi m σ ys H=>m=xs.length-i/\i<=xs.length/\(∀x,σ.set k (some x)=τ.set k (some x))/\ys.length<=i/\Pv i ys H,⟨xs.length,by simp,uz _,λ_=>rfl,sS _,h0⟩,?_⟩
 rintro i m σ ys H ⟨rfl,hi,hτ,hy,p⟩
 have q:=hl i ys H hi p
 by_cases hlt:i<xs.length
 ·refine .inr ⟨⟨xs,xs[i],q,by simp[hlt]⟩,λx H' y =>?_⟩
  obtain ⟨e,y⟩:=y
  subst e
  show tc (σ.set k (some x)) _ _
  rw[hτ x]
  have hσ:∀z,(τ.set k (some x)).set k (some z)=τ.set k (some z):=λz=>by rw[List.set_set]
  refine hs i x ys _ (y xs q) hy p _ _ (λy4 H4 p4=>⟨by omega,xs.length-(i+1),by omega,rfl,hlt,hσ,by rw[tw,xY];omega,p4⟩) λH3 p3=>⟨xs.length-(i+1),by omega,rfl,hlt,hσ,by omega,p3⟩
 ·have e:i=xs.length:=by omega
  subst e
  exact .inl ⟨⟨xs,q,sS _⟩,by omega,hd ys H hy p⟩
structure Cal (P:tj)(w:ud)(K:sI)(mg:Str->Option sJ)(base:Heap)(k:Nat)(x:Str)(ps:List Str)(sp:Sp):Prop where
 ex:∃f fd,aZ P w K mg base CX0 k f fd ps sp/\mg x=some (.ref f)/\PySem.W.keepIn K (.ref f)=true/\Binds K fd ps []
theorem aD {X:Cx}{j k:Nat}{x:Str}{ps:List Str}{sp:Sp}{e:Expr}{es:List Expr}{t:TA}{p pos:Pos}(C:Cal X.prog X.w X.K X.mg X.base k x ps sp)(hr:bD j X.A)(hj:k<=j)(hg:Gl X x)(ha:PA X (e :: es) t)
  (hdb:(x == ("__debug__" : Str))=false:=by decide) (he:tU (e :: es) X.env=(false,eval e X.env) :: tU es X.env:=by rfl) (hpl:(vV pos (tU es X.env)).any (·.1)=false:=by rfl) :
  PE X (.Call (.Name x p) (e :: es) [] pos) (pe sp [] E0 t):=by
 obtain ⟨f,fd,F,m,kp,b⟩:=C.ex
 exact nU F (hr.mono hj) hg m kp b .nil rO ha hdb he hpl
theorem af {H:Hp}{p:Addr}(h:H p=none)(o:HO):aB H (upd H p o):=λb u q=>by rw[ai (aj q h)];exact q
theorem small {n:Nat}(h:n<=1000):n<=sM:=xf (cZ h)
open PySem PySem.Spec PyProof.Rows
section
variable  {X:Cx}
def og:V->List V->Hp->VK->Prop:=λx vs H Q=>∃(l:Addr) (xs:List V) (i:Int) (y:V),x = .ref l/\vs=[.int i,y]/\H l=some (.lst xs)/\0<=i/\i<=xs.length/\xs.length<sM/\Q .non (upd H l (.lst (xs.take i.toNat++y :: xs.drop i.toNat)))
theorem gu:MtM X "list.insert" og:=by
 intro pins s σ H x vs v us Q I rx rv h
 obtain ⟨l,xs,i,y,rfl,rfl,hH,h0,h1,hz,q⟩:=h
 cases rx
 obtain ⟨ui,uy,rfl,⟨t,rfl⟩,ry⟩:=vals2 rv
 obtain ⟨z,its,n,r,hl,e⟩:=I.qi hH
 have zl:=eg
 have fits:¬ (!Builtin.List.listFitsIndex i)=true:=by
  have:Builtin.List.listFitsIndex i=true:=by
   unfold Builtin.List.listFitsIndex
   simp only[uo,decide_eq_true_eq]
   omega
  rw[this];simp
 refine ye F.slot_list_insert ⟨_,e,rfl⟩ F.entry_list_insert (F.args_list_insert_3 _ _ _) (xM l its.toArray n i t uy fits (by rw[sO];omega)) ⟨e,?_⟩
 refine ⟨.non,_,I.rM (its':=its.take i.toNat++uy :: its.drop i.toNat) hH e ?_ ((r.take _).append (.cons ry (r.drop _))) ?_,rfl,q⟩
 ·have ek:min i.toNat its.toArray.size=i.toNat:=by rw[sO];omega
  dsimp only
  rw[if_neg (by omega),ek]
  apply xN.mp
  rw[tT,vd,uJ,uJ,uj,uj]
  simp
  rw[uV (by rw[uL];omega)]
 ·rw[tw,tY,uH,uL]
  omega
theorem bW.kit {pins:List (Addr×Obj)}{σ:St}{H:Hp}{s:sL}{x:V}{u t:sJ}(I:Inv X pins σ H s)(rx:RelV x u)(ty:bW X.K H x t)(hn:∀a C dx fs,H a=some (.ins C dx fs)->x ≠ .ref a) :
  ∃P:Heap->Prop,PySem.W.KitX X.K u t P/\P s.heap/\u ≠ .builtin "__main__.__loader__#opaque" := by
 cases ty with
 | non=>cases (show u=vx from rx);exact ⟨_,yE,True.intro,λz=>nomatch z⟩
 | bl y=>cases (show u=Value.bool y from rx);exact ⟨_,yF,True.intro,λz=>nomatch z⟩
 | int i=>obtain ⟨t,q⟩:=(show ∃t,u=vY i t from rx);cases q;exact ⟨_,yP,True.intro,λz=>nomatch z⟩
 | str y=>obtain ⟨t,q⟩:=(show ∃t,u=Value.str y t from rx);cases q;exact ⟨_,yQ,True.intro,λz=>nomatch z⟩
 | flt y=>obtain ⟨t,q⟩:=(show ∃t,u=Value.float y t from rx);cases q;exact ⟨_,yr,True.intro,λz=>nomatch z⟩
 | @lst a xs ea =>
  cases (show u=tH a from rx)
  obtain ⟨_,_,n,_,h1⟩:=(show aQ X.prog X.w H s.heap a (.lst xs) from I.hok a _ ea)
  exact ⟨_,wm,⟨_,h1,rfl⟩,λz=>nomatch z⟩
 | @frz a ob xs ea =>
  cases (show u=tH a from rx)
  obtain ⟨_,_,_,n,_,h1⟩:=(show aQ X.prog X.w H s.heap a (.frz ob (.lst xs)) from I.hok a _ ea)
  exact ⟨_,wm,⟨_,h1,rfl⟩,λz=>nomatch z⟩
 | @tup a xs ea =>
  cases (show u=tH a from rx)
  obtain ⟨_,_,_,p⟩:=(show aQ X.prog X.w H s.heap a (.tup xs) from I.hok a _ ea)
  obtain ⟨o,h1,h2,_⟩:=p
  exact ⟨_,yt,⟨o,h1,h2.1⟩,λz=>nomatch z⟩
 | @dK a kvs ea =>
  cases (show u=tH a from rx)
  obtain ⟨_,_,vs,_,p⟩:=(show aQ X.prog X.w H s.heap a (.dK kvs) from I.hok a _ ea)
  obtain ⟨o,es,ep,h1,h2,_⟩:=p
  exact ⟨_,wo,⟨o,h1,h2.1⟩,λz=>nomatch z⟩
 | @dT a kvs ea =>
  cases (show u=tH a from rx)
  obtain ⟨_,_,xs,_,o,es,ep,h1,h2,_⟩:=(show aQ X.prog X.w H s.heap a (.dT kvs) from I.hok a _ ea)
  exact ⟨_,wo,⟨o,h1,h2.1⟩,λz=>nomatch z⟩
 | @ins a C dx fs ea cl ha hn' htk hm=>exact absurd rfl (hn a C dx fs ea)
theorem iO:∀{Ts:List String} {us:List sJ},Vals (Ts.map V.ty) us->us=Ts.map v7
 | [],_,r=>by cases r;rfl
 | T :: Ts,_,r=>by
  cases r with
  | cons h t=>rw[ug, <- iO t,show _=v7 T from h]
theorem dI:bS X (.builtin "isinstance") (λxs H Q=>∃(x:V) (p:Addr) (Ts:List String) (t:sJ) (b:Bool),xs=[x,.ref p]/\SqT X.K H p (Ts.map V.ty)/\bW X.K H x t/\(∀a C dx fs,H a=some (.ins C dx fs)->x ≠ .ref a) ∧
  PySem.W.kitAny X.K t (Ts.map v7)=some b/\Q (.bl b) H):=by
 intro pins s σ H xs us Q I r h
 obtain ⟨x,p,Ts,t,b,rfl,hs,ty,hn,e,q⟩:=h
 obtain ⟨u,w',rfl,ru,rw'⟩:=vals2 r
 cases (show w'=tH p from rw')
 obtain ⟨its,rv,⟨⟨c,dd,da,sl⟩,eo,ec,n,ed⟩,_⟩:=I.tuple hs
 have ei:=iO rv
 simp only at ec ed
 subst ec ed
 obtain ⟨P,Z,hP,hne⟩:=bW.kit I ru ty hn
 rw[<- ei] at e
 exact PySem.W.kia_tup Z I.kIn hP eo e hne λtk=>⟨.bl b,H,I.tok tk,rfl,q⟩
theorem bM {α β:Type}{F:α -> β -> Prop}:∀{l:List α} {m:List β} {i:Nat} {x:α} {y:β},Paired F l m->l[i]? = some x->m[i]? = some y->F x y
 | _,_,0,_,_,.cons h _,e1,e2=>by simp at e1 e2;subst e1 e2;exact h
 | _,_,i+1,_,_,.cons _ t,e1,e2=>bM (i:=i) t (by simpa using e1) (by simpa using e2)
 | _,_,_,_,_,.nil,e1,_=>by simp at e1
theorem all_true (n:Nat):((wL n).all λ_=>true)=true:=by simp
end
open PySem PySem.Spec PyProof.Rows
open PySem PySem.Spec PyProof.Rows
section
variable  {X:Cx}{K:sI}
theorem fg (h:X.K=K:=by rfl):IxR X (rIx K):=by subst h;exact qf
end
open PySem PySem.Spec PyProof.Rows
theorem Inv.fE {X:Cx}{pins:List (Addr×Obj)}{σ:St}{H:Hp}{s:sL}{h':Heap}{t':Nat}{ch:List Addr}{T:Addr}{o:HO}(I:Inv X pins σ H s)(f:∀b∈ch,fw X pins H b)
  (k:∀b ob,b∉ch->s.heap.get? b=some ob->h'.get? b=some ob) (th:∀b∈ch,∃ob,h'.get? b=some ob) (hT:s.heap.objs.size<=T) (new:aQ X.prog X.w (upd H T o) h' T o):Inv X pins σ (upd H T o) { s with heap:=h',toks:=t' }:=by
 have hn:H T=none:=I.hok.fresh hT
 have nT:∀b ob,s.heap.get? b=some ob->b≠T:=λb ob e=>tW (sT (sV e) hT)
 refine I.step (g':=s.gens) (d':=s.drawn) (ch:=ch) (λb hb =>?_) (λb ob _ _ hc e _=>k b ob hc e) (λb ob _ _ hc e _=>⟨ob.slots,k b ob hc e⟩) (λb ob _ e n=>by rw[ai (nT b ob e)];exact n)
  (λb ob hc e=>⟨ob,k b ob hc e⟩) (λb xs e=>by rw[ai (aj e hn)];exact e) (λb ob u e=>by rw[ai (aj e hn)];exact e) (λb ps e=>⟨#[],by rw[ai (aj e hn),e];simp⟩) (λm hm =>?_) (λb u e =>?_) I.bare
 ·obtain ⟨g0,g1,g2,g3,g4,g5⟩:=f b hb
  exact ⟨g3,g1,g4,g5⟩
 ·obtain ⟨ob,es,ep,ho,r⟩:=hm
  exact ⟨ob,es,ep,k _ ob (λz=>(f _ z).2.1 rfl) ho,r⟩
 ·by_cases hb:b=T
  ·subst hb
   rw[ae] at e
   cases e
   exact new
  ·rw[ai hb] at e
   refine (I.hok b u e).bT (λc v hc q=>k c v ?_ q) (λc q=>by rw[ai (aj q hn)];exact q) λc xs q=>by rw[ai (aj q hn)];exact q
   intro z
   have n0:=(f c z).1
   rcases hc with hc | hc
   ·rw[hc,e] at n0;cases n0
   ·rw[hc] at n0;cases n0
def Ite (K:sI)(a:Addr):It :=
 ⟨λi H=>∃xs v,SqL K H a xs/\xs[i]? = some v,λi H x H'=>∃T v,H T=none/\x = .ref T/\H'=upd H T (.tup [.int i,v])/\∀xs,SqL K H a xs->xs[i]? = some v,λi H=>∃xs,SqL K H a xs/\xs.length<=i⟩
theorem lh {P:tj}{w:ud}{K:sI}{elts:List Expr}{k:Nat}{pos:Pos}(a e it:Addr)(hne:e≠it):Turn P w K (.Tuple elts k pos) (Ite K a) [e,it] e (λi h=>(∃old,IsEnum h e it i old)/\h.IsListIter it a i) where
 mem:=by simp
 obj:=λi h ⟨⟨old,h1⟩,h2⟩ b hb=>by
  rcases tG.mp hb with q | q
  ·subst q
   exact ⟨_,h1,λv z=>nomatch z⟩
  ·have q':b=it:=by simpa using q
   subst q'
   obtain ⟨o,ho,_,hd⟩:=h2
   exact ⟨o,ho,λv z=>by rw[hd] at z;cases z⟩
 keep:=λi h h' ⟨⟨old,h1⟩,h2⟩ kp=>⟨⟨old,kp e (by simp) _ h1⟩,h2.at λo x=>kp it (by simp) o x⟩
 item:=λX eP eW eK hcalm i pins s σ H E I f ⟨⟨old,h1⟩,h2⟩ go=>by
  subst eP eW eK
  obtain ⟨xs,v,hs,hv⟩:=go
  obtain ⟨its,r,pl,hz⟩:=I.list hs
  obtain ⟨u,eu,ru⟩:=r.get hv
  refine wpAny_pyNext_enum_item h1 h2 pl.isList (x:=u) (by rw[vL];exact eu) hne λh' o1 o2 o3 o4 kp =>?_
  refine ⟨_,rfl,?_⟩
  refine xb o1 λh2' e2 sb =>?_
  have eT:e≠s.heap.objs.size:=tW (sV h1)
  have kp2:∀b ob,b∉[e,it]->s.heap.get? b=some ob->h2'.get? b=some ob:=λb ob hb eb=>by
   have n1:b≠e:=λz=>hb (by simp[z])
   have n2:b≠it:=λz=>hb (by simp[z])
   rw[sb.2 b n1]
   exact kp b ob n1 n2 eb
  have li:h2'.IsListIter it a (i+1):=o2.at λob eb=>by rw[sb.2 it (vf hne)];exact eb
  have tp:h2'.get? s.heap.objs.size=some { cls :=.type "tuple",data :=.seq #[.int i s.toks,u] }:=by rw[sb.2 _ (vf eT)];exact o3
  refine ⟨.ref s.heap.objs.size,upd H s.heap.objs.size (.tup [.int i,v]),I.fE (ch:=[e,it]) f kp2 (λb hb =>?_) (sS _) ?_,rfl,⟨s.heap.objs.size,v,I.hok.fresh (sS _),rfl,rfl,λys hy =>?_⟩,⟨⟨_,e2⟩,li⟩,λb hb =>?_⟩
  ·rcases tG.mp hb with q | q
   ·subst q;exact ⟨_,e2⟩
   ·have q':b=it:=by simpa using q
    subst q'
    obtain ⟨ob,ho,_⟩:=li
    exact ⟨ob,ho⟩
  ·refine ⟨(by show 2<=sM;decide),[.int i s.toks,u],.cons ⟨_,rfl⟩ (.cons ru .nil),_,tp,⟨rfl,rfl⟩,_,rfl⟩
  ·rw[I.iL hy hs];exact hv
  ·have ne:b≠s.heap.objs.size:=by
    rcases tG.mp hb with q | q
    ·rw[q];exact eT
    ·have q':b=it:=by simpa using q
     rw[q']
     obtain ⟨ob,ho,_⟩:=h2
     exact tW (sV ho)
   rw[ai ne]
   exact (f b hb).1
 done:=λX eP eW eK hcalm i pins s σ H E I f ⟨⟨old,h1⟩,h2⟩ stop=>by
  subst eP eW eK
  obtain ⟨xs,hs,hl⟩:=stop
  obtain ⟨its,r,pl,hz⟩:=I.list hs
  have l:=r.length
  refine wpAny_pyNext_enum_end (I.ok.hd hcalm) h1 h2 pl.isList (by rw[vL];exact xq.mpr (by omega)) λh' ex=>⟨rfl,?_⟩
  obtain ⟨g0,g1,g2,g3,g4,g5⟩:=f it (by simp)
  exact I.turned (it:=it) (h':=h') (t':=s.toks) (λb o ne eb=>ex b o ne eb) g0 g1 g3 g4 g5
 self:=λA i s Q E ⟨⟨old,h1⟩,_⟩ q=>by
  refine yK ⟨_,h1,rfl⟩ vM (vF vM ⟨_,h1,rfl⟩ xS ?_ (xG _))
  show tP _ _ (ret (.ref e)) _ _ s
  exact tQ ⟨_,rfl, "enumerate",_,⟨_,h1,rfl⟩,vN.lookup,q⟩
open PySem PySem.Spec PyProof.Rows
open PySem.AutoSeq1 (wpAny_loadPart')
section
variable  {prog:tj}{w:ud}{A:ue}{E:sJ->sL->Prop}{s:sL}
theorem jw {it t:Addr}{i:Nat}{items:Array sJ}{x:sJ}{Q:sJ->sL->Prop}(hi:s.heap.IsTupleIter it t i)(hl:s.heap.IsTuple t items)(hx:items[i]? = some x)
  (q:∀h',h'.IsTupleIter it t (i+1)->Heap.SameBut it s.heap h'->Q x { s with heap:=h' }):tP (tN prog w) A (Builtin.SmallTypes.nextOf (.ref it)) Q E s:=by
 obtain ⟨o,eo,oc,od⟩:=id hi
 obtain ⟨ol,el,_,nl,dl⟩:=hl
 unfold Builtin.SmallTypes.nextOf
 refine sP (wj (name:=Str.ofString "__next__") hi.typeIs vm (vF vm hi.typeIs wO ?_ (wH _)))
 show tP _ _ (field (.ref it) 0 >>= _) _ _ s;refine sP (xJ eo od (x :=.ref t) rfl ?_)
 show tP _ _ (if (tH t == vx)=true then _ else _) _ _ s;rw[if_neg (show ¬ ((tH t == vx)=true) from tL)]
 show tP _ _ (field (.ref it) 1 >>= _) _ _ s;refine sP (xJ eo od (x :=.int i 0) rfl ?_)
 show tP _ _ (seqItems? (.ref t) >>= _) _ _ s;refine sP (wpAny_seqItems el dl ?_)
 simp only[xw,hx];refine sP (yk eo od (by simp) (tQ ⟨x,rfl,tQ (q _ ?_ (yl ..))⟩))
 exact ⟨_,vo _ eo (Obj.isFreed_of_fields (xh od _)),(Obj.cls_mapFields ..).trans oc,by rw[xh od];simp[zD]⟩
theorem cR {it t:Addr}{i:Nat}{items:Array sJ}{Q:sJ->sL->Prop}(hh:A.handled=none)(hi:s.heap.IsTupleIter it t i)(hl:s.heap.IsTuple t items)(hx:items[i]? = none)
  (q:∀h' e,Heap.ExtBut it s.heap h'->(∃o,h'.get? e=some o/\o.cls = .type "StopIteration")->E (.ref e) { s with heap:=h' }):tP (tN prog w) A (Builtin.SmallTypes.nextOf (.ref it)) Q E s:=by
 obtain ⟨o,eo,oc,od⟩:=id hi
 obtain ⟨ol,el,_,nl,dl⟩:=hl
 unfold Builtin.SmallTypes.nextOf
 refine sP (wj (name:=Str.ofString "__next__") hi.typeIs vm (vF vm hi.typeIs wO ?_ (wH _)))
 show tP _ _ (field (.ref it) 0 >>= _) _ _ s;refine sP (xJ eo od (x :=.ref t) rfl ?_)
 show tP _ _ (if (tH t == vx)=true then _ else _) _ _ s;rw[if_neg (show ¬ ((tH t == vx)=true) from tL)]
 show tP _ _ (field (.ref it) 1 >>= _) _ _ s;refine sP (xJ eo od (x :=.int i 0) rfl ?_)
 show tP _ _ (seqItems? (.ref t) >>= _) _ _ s;refine sP (wpAny_seqItems el dl ?_)
 simp only[xw,hx];refine sP (wu (sP (yk eo od (by simp) ?_)))
 show tP _ _ (newExc (.type "StopIteration") [] >>= _) _ _ _;refine sP ?_
 simp only[newExc,newTuple];refine sP (xE ?_ (by size_fits))
 refine sP (m:=firstArgMember _ _) (wpAny_of_eq (a:=vx) (by first | rfl | (simp only[firstArgMember];rfl)) ?_);refine xE ?_ (by size_fits)
 simp only[raiseNew];refine sP (wpAny_handled ?_)
 first | (rw[show A.in1.handled=none from hh]) | (rw[hh])
 refine sP (tQ (wpAny_throw ?_));exact q _ _ (((yl ..).extBut.push _).push _) ⟨_,tR _ rfl,rfl⟩
theorem lp (hh:A.handled=none)(it l:Addr)(hne:l≠it)(items:Array sJ) :
  Draws prog w A it [it,l] items.size (λi v=>items[i]? = some v) (λi h=>h.IsTupleIter it l i/\h.IsTuple l items) where
 live:=λ_ _ st=>by obtain ⟨o,ho,_⟩:=st.1;exact ⟨o,ho⟩
 frame:=λ_ _ _ st hk=>⟨st.1.at λo e=>hk it (by simp) o e,by obtain ⟨o,e,r⟩:=st.2;exact ⟨o,hk l (by simp) o e,r⟩⟩
 item:=λi s Q E hi st hQ=>by
  refine jw st.1 st.2 (x:=items[i]) (by simp[hi]) λh' hit' hs' =>?_
  obtain ⟨o,e,r⟩:=st.2
  exact hQ _ h' s.toks (by simp[hi]) ⟨hit',o,by rw[hs'.2 l hne];exact e,r⟩ hs'
 done:=λs Q E st hE=>cR hh st.1 st.2 (by simp) hE
theorem g6 (l:Addr)(items:Array sJ)(n:Nat)(dct:Option Addr)(sl:Array (Option sJ)) :
  Meets (Builtin.«enumerate.__new__» ⟨[.type "enumerate",.ref l],[]⟩) (λ_ R s=>s.heap.get? l=some { cls :=.type "tuple",dict:=dct,data :=.seq items n,slots:=sl } ∧
   R (.ok (.ret (.ref (s.heap.push { cls :=.type "tuple_iterator",data :=.fields #[.ref l,.int 0 0] }).objs.size)))
    { s with heap:=(s.heap.push { cls :=.type "tuple_iterator",data :=.fields #[.ref l,.int 0 0] }).push { cls :=.type "enumerate",data :=.fields #[.none,.bool false,.ref s.heap.objs.size,zD 0,.none,.none] } }) :=
 .of_wp λprog w A R s h=>by
  obtain ⟨hp,g,d,tk,os⟩:=s;obtain ⟨hl,h⟩:=h
  have hsub:=sub_enumerate
  have hT:Heap.IsTuple (Shared.heap ⟨hp,g,d,tk,os⟩) l items:=⟨_,hl,rfl,n,rfl⟩
  wp_walk using wpAny_loadPart' hl
  refine wpAny_stack_any λst=>tQ ?_
  split
  ·rename_i c _ _ _ _ _
   cases (c == v7 "enumerate") <;> (wp_walk using wpAny_loadPart' hl,yC hT;exact ⟨_,rfl,h⟩)
  ·wp_walk using wpAny_loadPart' hl,yC hT;exact ⟨_,rfl,h⟩
theorem fZ {l:Addr}{items:Array sJ}{Q:sJ->sL->Prop}(hL:s.heap.IsTuple l items)
  (h:∀h',IsEnum h' (s.heap.objs.size+1) s.heap.objs.size 0 .none->h'.IsTupleIter s.heap.objs.size l 0->h'.objs.size=s.heap.objs.size+2->(∀b o,s.heap.get? b=some o->h'.get? b=some o)->Q (.ref (s.heap.objs.size+1)) { s with heap:=h' }) :
  tP (tN prog w) A (call (.type "enumerate") [.ref l]) Q E s:=by
 obtain ⟨⟨c,dct,dt,sl⟩,hl,hc,n,hd⟩:=hL
 replace hc:c = .type "tuple" := hc
 replace hd:dt = .seq items n:=hd
 subst hc hd
 refine callType_new F.called_enumerate (by decide) (F.typeCall_enumerate_1 _) (F.newCall_enumerate_1 _) (λobj=>F.args_object_init_2 obj _) F.entry_enumerate_new (g6 l items n dct sl) ⟨hl,?_⟩
 have hz:(s.heap.push { cls :=.type "tuple_iterator",data :=.fields #[.ref l,.int 0 0] }).objs.size=s.heap.objs.size+1:=yj ..
 show _/\_
 rw[hz]
 have he:IsEnum ((s.heap.push { cls :=.type "tuple_iterator",data :=.fields #[.ref l,.int 0 0] }).push { cls :=.type "enumerate",data :=.fields #[.none,.bool false,.ref s.heap.objs.size,zD 0,.none,.none] }) (s.heap.objs.size+1) s.heap.objs.size 0 .none:=by
  have:=tR (s.heap.push { cls :=.type "tuple_iterator",data :=.fields #[.ref l,.int 0 0] }) (o:={ cls :=.type "enumerate",data :=.fields #[.none,.bool false,.ref s.heap.objs.size,zD 0,.none,.none] }) rfl
  rw[hz] at this;exact this
 exact ⟨⟨_,he,rfl⟩,h _ he ⟨_,sN _ (tR _ rfl),rfl,rfl⟩ (by rw[yj,hz]) λb o x=>sN _ (sN _ x)⟩
end
theorem cA {prog:tj}{w:ud}{A:ue}{E:sJ->sL->Prop}{s:sL}{e it t:Addr}{i:Nat}{items:Array sJ}{old:sJ}{Q:Option sJ->sL->Prop}(hh:A.in1.handled=none)(he:IsEnum s.heap e it i old)(hi:s.heap.IsTupleIter it t i)
  (hl:s.heap.IsTuple t items) (hx:items[i]? = none) (q:∀h',Heap.ExtBut it s.heap h'->Q none { s with heap:=h' }):tP (tN prog w) A (pyNext (.ref e)) Q E s:=by
 have hT:s.TypeIs (.ref e) "enumerate" :=⟨_,he,rfl⟩
 unfold pyNext
 refine sP (yD (wj (name:=Str.ofString "__next__") hT vN (vF vN hT F.entry_enumerate_next ?_ (F.args_enumerate_next_1 _))))
 show tP _ _ (field (.ref e) 2 >>= _) _ _ _;refine sP (xJ he rfl (x :=.ref it) rfl ?_)
 refine sP (cR hh hi hl hx λh' x he' hx' =>?_)
 obtain ⟨o,ho,hc⟩:=hx'
 refine sP (wpAny_isInstance (T := "StopIteration") (b:=true) ⟨o,ho,hc⟩ isSubtype_stop ?_);exact tQ (q _ he')
def ItE (K:sI)(a:Addr):It :=
 ⟨λi H=>∃xs v,SqT K H a xs/\xs[i]? = some v,λi H x H'=>∃T v,H T=none/\x = .ref T/\H'=upd H T (.tup [.int i,v])/\∀xs,SqT K H a xs->xs[i]? = some v,λi H=>∃xs,SqT K H a xs/\xs.length<=i⟩
theorem jx {P:tj}{w:ud}{K:sI}{elts:List Expr}{k:Nat}{pos:Pos}(a e it:Addr)(hne:e≠it)(hai:a≠it)(hae:a≠e):Turn P w K (.Tuple elts k pos) (ItE K a) [e,it] e (λi h=>(∃old,IsEnum h e it i old)/\h.IsTupleIter it a i) where
 mem:=by simp
 obj:=λi h ⟨⟨old,h1⟩,h2⟩ b hb=>by
  rcases tG.mp hb with q | q
  ·subst q
   exact ⟨_,h1,λv z=>nomatch z⟩
  ·have q':b=it:=by simpa using q
   subst q'
   obtain ⟨o,ho,_,hd⟩:=h2
   exact ⟨o,ho,λv z=>by rw[hd] at z;cases z⟩
 keep:=λi h h' ⟨⟨old,h1⟩,h2⟩ kp=>⟨⟨old,kp e (by simp) _ h1⟩,h2.at λo x=>kp it (by simp) o x⟩
 item:=λX eP eW eK hcalm i pins s σ H E I f ⟨⟨old,h1⟩,h2⟩ go=>by
  subst eP eW eK
  obtain ⟨xs,v,hs,hv⟩:=go
  obtain ⟨its,r,pl,hz⟩:=I.tuple hs
  obtain ⟨u,eu,ru⟩:=r.get hv
  have hi:i<its.toArray.size:=by rw[sO];exact (sQ.mp eu).1
  have hd:X.A.in1.handled=none:=I.ok.hd hcalm
  refine wpAny_pyNext_enum_itemD (lp hd it a hai its.toArray) h1 ⟨h2,(show s.heap.IsTuple a its.toArray from pl)⟩ hi hne (by simp[hne,vf hae]) λx h' tk px o1 o2 o3 o4 kp =>?_
  rw[vL,eu] at px
  have px':u=x:=tV px
  subst px'
  refine ⟨_,rfl,?_⟩
  refine xb o1 λh2' e2 sb =>?_
  have eT:e≠s.heap.objs.size:=tW (sV h1)
  have kp2:∀b ob,b∉[e,it]->s.heap.get? b=some ob->h2'.get? b=some ob:=λb ob hb eb=>by
   have n1:b≠e:=λz=>hb (by simp[z])
   have n2:b≠it:=λz=>hb (by simp[z])
   rw[sb.2 b n1]
   exact kp b ob n1 n2 eb
  have li:h2'.IsTupleIter it a (i+1):=o2.1.at λob eb=>by rw[sb.2 it (vf hne)];exact eb
  have tp:h2'.get? s.heap.objs.size=some { cls :=.type "tuple",data :=.seq #[.int i tk,u] }:=by rw[sb.2 _ (vf eT)];exact o3
  refine ⟨.ref s.heap.objs.size,upd H s.heap.objs.size (.tup [.int i,v]),I.fE (ch:=[e,it]) f kp2 (λb hb =>?_) (sS _) ?_,rfl,⟨s.heap.objs.size,v,I.hok.fresh (sS _),rfl,rfl,λys hy =>?_⟩,⟨⟨_,e2⟩,li⟩,λb hb =>?_⟩
  ·rcases tG.mp hb with q | q
   ·subst q;exact ⟨_,e2⟩
   ·have q':b=it:=by simpa using q
    subst q'
    obtain ⟨ob,ho,_⟩:=li
    exact ⟨ob,ho⟩
  ·refine ⟨(by show 2<=sM;decide),[.int i tk,u],.cons ⟨_,rfl⟩ (.cons ru .nil),_,tp,⟨rfl,rfl⟩,_,rfl⟩
  ·rw[I.kQ hy hs];exact hv
  ·have ne:b≠s.heap.objs.size:=by
    rcases tG.mp hb with q | q
    ·rw[q];exact eT
    ·have q':b=it:=by simpa using q
     rw[q']
     obtain ⟨ob,ho,_⟩:=h2
     exact tW (sV ho)
   rw[ai ne]
   exact (f b hb).1
 done:=λX eP eW eK hcalm i pins s σ H E I f ⟨⟨old,h1⟩,h2⟩ stop=>by
  subst eP eW eK
  obtain ⟨xs,hs,hl⟩:=stop
  obtain ⟨its,r,pl,hz⟩:=I.tuple hs
  have l:=r.length
  have hd:X.A.in1.handled=none:=I.ok.hd hcalm
  refine cA (A:=X.A) hd h1 h2 (show s.heap.IsTuple a its.toArray from pl) (by rw[vL];exact xq.mpr (by omega)) λh' ex=>⟨rfl,?_⟩
  obtain ⟨g0,g1,g2,g3,g4,g5⟩:=f it (by simp)
  exact I.turned (it:=it) (h':=h') (t':=s.toks) (λb o ne eb=>ex b o ne eb) g0 g1 g3 g4 g5
 self:=λA i s Q E ⟨⟨old,h1⟩,_⟩ q=>by
  refine yK ⟨_,h1,rfl⟩ vM (vF vM ⟨_,h1,rfl⟩ xS ?_ (xG _))
  show tP _ _ (ret (.ref e)) _ _ s
  exact tQ ⟨_,rfl, "enumerate",_,⟨_,h1,rfl⟩,vN.lookup,q⟩
open PySem PySem.Spec PyProof.Rows
def rV (K:sI)(ta:TA):TI:=λσ H R=>ta σ H λvs H1=>∃a,vs=[.ref a]/\(((∃xs,SqL K H1 a xs)/\R (Ite K a) H1)\/((∃xs,SqT K H1 a xs)/\R (ItE K a) H1))
section
variable  {X:Cx}
theorem oh {a:Expr}{ta:TA}{p pos pos':Pos}{elts:List Expr}{k:Nat}(hg:Gl X "enumerate")(hm:X.mg "enumerate" = none)(ha:PA X [a] ta)(hs:tU [a] X.env=[(false,eval a X.env)]:=by rfl) :
  PI X (.Tuple elts k pos') (.Call (.Name "enumerate" p) [a] [] pos) (rV X.K ta):=by
 intro pins s σ H R I h
 refine Call_ (dY I hg hm boot_enumerate (vJ (thn (ha pos pins s σ H _ I h) λus s1 ⟨vs,H1,I1,r1,q1⟩ =>?_) hs rfl))
 obtain ⟨l,e,q1⟩:=q1
 subst e
 obtain ⟨u,rfl,ru⟩:=vals1 r1
 cases (show u=tH l from ru)
 have fp:∀b∈[s1.heap.objs.size+1,s1.heap.objs.size],fw X pins H1 b:=λb hb=>by
  have ge:s1.heap.objs.size<=b:=by
   rcases tG.mp hb with q | q
   ·rw[q];exact wN _
   ·have q':b=s1.heap.objs.size:=by simpa using q
    rw[q'];exact sS _
  exact I1.pW ge (I1.hok.fresh ge)
 have ne:s1.heap.objs.size+1≠s1.heap.objs.size:=xW (yS _)
 rcases q1 with ⟨⟨xs,hq⟩,q⟩ | ⟨⟨xs,hq⟩,q⟩
 ·obtain ⟨its,rv,pl,hz⟩:=I1.list hq
  refine call_enumerate_list pl.isList λh' he li _ kp =>?_
  have T:=lh (P:=X.prog) (w:=X.w) (K:=X.K) (elts:=elts) (k:=k) (pos:=pos') l _ _ ne
  refine T.self _ 0 _ _ _ ⟨⟨_,he⟩,li⟩ ?_
  exact ⟨_,_,_,_,H1,rfl,I1.kept (t':=s1.toks) kp,T,⟨⟨_,he⟩,li⟩,fp,q⟩
 ·obtain ⟨its,rv,pl,hz⟩:=I1.tuple hq
  have lt:l<s1.heap.objs.size:=by obtain ⟨o,e,_⟩:=pl;exact sV e
  refine fZ (show s1.heap.IsTuple l its.toArray from pl) λh' he li _ kp =>?_
  have T:=jx (P:=X.prog) (w:=X.w) (K:=X.K) (elts:=elts) (k:=k) (pos:=pos') l _ _ ne (tW lt) (tW (xx lt))
  refine T.self _ 0 _ _ _ ⟨⟨_,he⟩,li⟩ ?_
  exact ⟨_,_,_,_,H1,rfl,I1.kept (t':=s1.toks) kp,T,⟨⟨_,he⟩,li⟩,fp,q⟩
end
def ForW (J:It)(g:TG)(tb:TS)(D:Ends)(σ:St)(H:Hp):Prop:=∃W:Nat->Nat->St->Hp->Prop,(∃m,W 0 m σ H)/\∀i m σ H,W i m σ H →
 (J.stop i H/\D.nx σ H)\/(J.go i H/\∃N:St->Hp->Prop,(∀σ' H',N σ' H'->∃m',m'<m/\W (i+1) m' σ' H')/\∀x H',J.yld i H x H'->g x σ H' λσ2 H2=>tb { D with nx:=N,ct:=N,bk:=D.nx } σ2 H2)
theorem lq {K:sI}{a:Addr}{xs:List V}{g:TG}{tb:TS}{D:Ends}{σ:St}{H:Hp}(Pv:Nat->St->Hp->Prop)(h0:Pv 0 σ H)(hl:∀i σ H,i<=xs.length->Pv i σ H->SqL K H a xs)
  (hs:∀i x σ H T,xs[i]? = some x->H T=none->Pv i σ H->g (.ref T) σ (upd H T (.tup [.int i,x])) λσ2 H2=>tb { D with nx:=Pv (i+1),ct:=Pv (i+1),bk:=D.nx } σ2 H2) (hd:∀σ H,Pv xs.length σ H->D.nx σ H):ForW (Ite K a) g tb D σ H:=by
 refine ⟨λi m σ H=>m=xs.length-i/\i<=xs.length/\Pv i σ H,⟨xs.length,by simp,uz _,h0⟩,?_⟩
 rintro i m σ H ⟨rfl,hi,p⟩
 have q:=hl i σ H hi p
 by_cases hlt:i<xs.length
 ·refine .inr ⟨⟨xs,xs[i],q,by simp[hlt]⟩,Pv (i+1),λσ' H' p'=>⟨xs.length-(i+1),by omega,rfl,hlt,p'⟩,λx H' y =>?_⟩
  obtain ⟨T,v,hT,ex,eH,hv⟩:=y
  subst ex eH
  exact hs i v σ H T (hv xs q) hT p
 ·have e:i=xs.length:=by omega
  subst e
  exact .inl ⟨⟨xs,q,sS _⟩,hd σ H p⟩
end L2
namespace Srt
open PySem PyProof.Rows
def gal:Bool->sW->Array sW->Nat->Nat->Nat->StateT tK Sem (Option Nat):=sortPriv% PySem.Builtin.gallop
def mLo:Array sW->Array sW->StateT tK Sem (Array sW):=sortPriv% PySem.Builtin.mergeLo
def mHi:Array sW->Array sW->StateT tK Sem (Array sW):=sortPriv% PySem.Builtin.mergeHi
def mAt:Nat->StateT tK Sem Bool:=sortPriv% PySem.Builtin.mergeAt
def pz:StateT tK Sem Unit:=sortPriv% PySem.Builtin.sortRuns
def qo:Nat->Nat->StateT tK Sem (Option Nat):=sortPriv% PySem.Builtin.countRun
def me:Nat->Nat->Nat->StateT tK Sem Bool:=sortPriv% PySem.Builtin.binarySort
theorem qp (lf:Bool)(ky:sW)(ar:Array sW)(bs n ht:Nat):gal lf ky ar bs n ht=(do
    let far (i:Nat):StateT tK Sem (Option Bool):=do
      let z ← elem' ar (bs+i)
      if lf then lt' z ky else return (← lt' ky z).map (!·)
    let mut la:=0;let mut of:=1
    let mut lo:=0;let mut hi:=0
    let some rt ← far ht | return none
    if rt then
      let mx:=n-ht
      for _ in [0:n] do
        if of≥mx then break
        let some mo ← far (ht+of)
          | return none
        if !mo then break
        la:=of;of:=2*of+1
      lo:=ht+la+1;hi:=ht+min of mx
    else
      let mx:=ht+1
      for _ in [0:n] do
        if of≥mx then break
        let some fd ← far (ht-of)
          | return none
        if fd then break
        la:=of;of:=2*of+1
      lo:=ht+1-min of mx;hi:=ht-la
    for _ in [0:n] do
      if lo≥hi then break
      let md:=lo+(hi-lo)/2
      let some mo ← far md | return none
      if mo then lo:=md+1 else hi:=md
    return some hi):=rfl
section
variable  {prog:tj}{w:ud}{A:ue}{E:sJ->sL->Prop}{s:sL}
theorem mf {lf:Bool}{ky:sW}{ar:Array sW}{bs n ht:Nat}{st:tK}{Q:Option Nat->tK->Prop}(p:Nat->Bool)
    (hf:∀i,i<n->∀(Q:Option Bool->tK->Prop),Q (some (p i)) st->wpS (tN prog w) A E s (do let z ← elem' ar (bs+i);if lf then lt' z ky else return (← lt' ky z).map (!·)) Q st)
    (hp:∀i j,i<=j->j<n->p j=true->p i=true) (hh:ht<n)
    (h:∀k,k<=n->(∀i,i<k->p i=true)->(∀i,k<=i->i<n->p i=false)->Q (some k) st):wpS (tN prog w) A E s (gal lf ky ar bs n ht) Q st:=by
  rw[qp]
  dsimp only
  refine sR (hf ht hh _ ?_)
  dsimp only
  cases hr:p ht with
  | true =>
    rw[if_pos rfl]
    refine sR (uZ (uu (I:=λx c st'=>st=st'/\∃la of,c=(none,la,of)/\la<of/\x+1<=of/\ht+la<n/\p (ht+la)=true)
      (Q:=λc st'=>st=st'/\∃la of,c=(none,la,of)/\la<of/\ht+la<n/\p (ht+la)=true/\(n-ht<=of\/(ht+of<n/\p (ht+of)=false))) ?step ?fin ⟨rfl,0,1,rfl,by omega,by omega,by omega,by simpa using hr⟩) ?post)
    case fin =>
      rintro c st' ⟨rfl,la,of,rfl,b1,b2,b3,b4⟩
      exact ⟨rfl,la,of,rfl,b1,b3,b4,.inl (by omega)⟩
    case step =>
      rintro x c st' _ hx ⟨rfl,la,of,rfl,b1,b2,b3,b4⟩
      dsimp only
      by_cases hge:of≥n-ht
      · rw[if_pos hge]
        exact sZ ⟨rfl,la,of,rfl,b1,b3,b4,.inl hge⟩
      · rw[if_neg hge]
        refine sR (hf _ (by omega) _ ?_)
        dsimp only
        cases hm:p (ht+of) with
        | true =>
          simp only[xH,uN,if_false]
          exact sZ ⟨rfl,of,2*of+1,rfl,by omega,by omega,by omega,hm⟩
        | false =>
          simp only[Bool.not_false,if_true]
          exact sZ ⟨rfl,la,of,rfl,b1,b3,b4,.inr ⟨by omega,hm⟩⟩
    case post =>
      rintro c st' ⟨rfl,la,of,rfl,b1,b3,b4,b5⟩
      have h1:(ht+la+1)<=(ht+min of (n-ht)):=by omega
      have h2:(ht+min of (n-ht))<=n:=by omega
      have h3:∀i,i<(ht+la+1)->p i=true:=λi hi=>hp i (ht+la) (by omega) b3 b4
      have h4:∀i,(ht+min of (n-ht))<=i->i<n->p i=false:=λi hi hn=>by
        rcases b5 with b5 | ⟨b5,b6⟩
        · omega
        · cases hpi:p i with
          | false=>rfl
          | true=>rw[hp (ht+of) i (by omega) hn hpi] at b6;cases b6
      dsimp only
      refine sR (uZ (uu (I:=λx c st'=>st=st'/\∃lo hi,c=(none,lo,hi)/\lo<=hi/\hi<=n/\hi-lo<=n-x/\(∀i,i<lo->p i=true)/\(∀i,hi<=i->i<n->p i=false))
        (Q:=λc st'=>st=st'/\∃k,c=(none,k,k)/\k<=n/\(∀i,i<k->p i=true)/\(∀i,k<=i->i<n->p i=false)) ?step ?fin ⟨rfl,(ht+la+1),(ht+min of (n-ht)),rfl,h1,h2,by omega,h3,h4⟩) ?post)
      case fin =>
        rintro c st' ⟨rfl,lo,hi,rfl,a1,a2,a3,a4,a5⟩
        have e:lo=hi:=by omega
        subst e
        exact ⟨rfl,lo,rfl,a2,a4,a5⟩
      case post =>
        rintro c st' ⟨rfl,k,rfl,a2,a4,a5⟩
        exact sZ (h k a2 a4 a5)
      case step =>
        rintro x c st' _ hx ⟨rfl,lo,hi,rfl,a1,a2,a3,a4,a5⟩
        dsimp only
        by_cases hge:lo≥hi
        · rw[if_pos hge]
          have e:lo=hi:=by omega
          subst e
          exact sZ ⟨rfl,lo,rfl,a2,a4,a5⟩
        · rw[if_neg hge]
          refine sR (hf _ (by omega) _ ?_)
          dsimp only
          cases hm:p (lo+(hi-lo)/2) with
          | true =>
            rw[if_pos rfl]
            exact sZ ⟨rfl,_,_,rfl,by omega,a2,by omega,λi hi'=>hp i _ (by omega) (by omega) hm,a5⟩
          | false =>
            rw[if_neg (by simp)]
            refine sZ ⟨rfl,_,_,rfl,by omega,by omega,by omega,a4,λi hi' hn =>?_⟩
            cases hpi:p i with
            | false=>rfl
            | true=>rw[hp _ i hi' hn hpi] at hm;cases hm
  | false =>
    rw[if_neg (by simp)]
    refine sR (uZ (uu (I:=λx c st'=>st=st'/\∃la of,c=(none,la,of)/\la<of/\x+1<=of/\la<=ht/\p (ht-la)=false)
      (Q:=λc st'=>st=st'/\∃la of,c=(none,la,of)/\la<of/\la<=ht/\p (ht-la)=false/\(ht+1<=of\/(of<=ht/\p (ht-of)=true))) ?step ?fin ⟨rfl,0,1,rfl,by omega,by omega,by omega,by simpa using hr⟩) ?post)
    case fin =>
      rintro c st' ⟨rfl,la,of,rfl,b1,b2,b3,b4⟩
      exact ⟨rfl,la,of,rfl,b1,b3,b4,.inl (by omega)⟩
    case step =>
      rintro x c st' _ hx ⟨rfl,la,of,rfl,b1,b2,b3,b4⟩
      dsimp only
      by_cases hge:of≥ht+1
      · rw[if_pos hge]
        exact sZ ⟨rfl,la,of,rfl,b1,b3,b4,.inl hge⟩
      · rw[if_neg hge]
        refine sR (hf _ (by omega) _ ?_)
        dsimp only
        cases hm:p (ht-of) with
        | true =>
          rw[if_pos rfl]
          exact sZ ⟨rfl,la,of,rfl,b1,b3,b4,.inr ⟨by omega,hm⟩⟩
        | false =>
          rw[if_neg (by simp)]
          exact sZ ⟨rfl,of,2*of+1,rfl,by omega,by omega,by omega,hm⟩
    case post =>
      rintro c st' ⟨rfl,la,of,rfl,b1,b3,b4,b5⟩
      have h1:(ht+1-min of (ht+1))<=(ht-la):=by omega
      have h2:(ht-la)<=n:=by omega
      have h3:∀i,i<(ht+1-min of (ht+1))->p i=true:=λi hi=>by
        rcases b5 with b5 | ⟨b5,b6⟩
        · omega
        · exact hp i (ht-of) (by omega) (by omega) b6
      have h4:∀i,(ht-la)<=i->i<n->p i=false:=λi hi hn=>by
        cases hpi:p i with
        | false=>rfl
        | true=>rw[hp (ht-la) i hi hn hpi] at b4;cases b4
      dsimp only
      refine sR (uZ (uu (I:=λx c st'=>st=st'/\∃lo hi,c=(none,lo,hi)/\lo<=hi/\hi<=n/\hi-lo<=n-x/\(∀i,i<lo->p i=true)/\(∀i,hi<=i->i<n->p i=false))
        (Q:=λc st'=>st=st'/\∃k,c=(none,k,k)/\k<=n/\(∀i,i<k->p i=true)/\(∀i,k<=i->i<n->p i=false)) ?step ?fin ⟨rfl,(ht+1-min of (ht+1)),(ht-la),rfl,h1,h2,by omega,h3,h4⟩) ?post)
      case fin =>
        rintro c st' ⟨rfl,lo,hi,rfl,a1,a2,a3,a4,a5⟩
        have e:lo=hi:=by omega
        subst e
        exact ⟨rfl,lo,rfl,a2,a4,a5⟩
      case post =>
        rintro c st' ⟨rfl,k,rfl,a2,a4,a5⟩
        exact sZ (h k a2 a4 a5)
      case step =>
        rintro x c st' _ hx ⟨rfl,lo,hi,rfl,a1,a2,a3,a4,a5⟩
        dsimp only
        by_cases hge:lo≥hi
        · rw[if_pos hge]
          have e:lo=hi:=by omega
          subst e
          exact sZ ⟨rfl,lo,rfl,a2,a4,a5⟩
        · rw[if_neg hge]
          refine sR (hf _ (by omega) _ ?_)
          dsimp only
          cases hm:p (lo+(hi-lo)/2) with
          | true =>
            rw[if_pos rfl]
            exact sZ ⟨rfl,_,_,rfl,by omega,a2,by omega,λi hi'=>hp i _ (by omega) (by omega) hm,a5⟩
          | false =>
            rw[if_neg (by simp)]
            refine sZ ⟨rfl,_,_,rfl,by omega,by omega,by omega,a4,λi hi' hn =>?_⟩
            cases hpi:p i with
            | false=>rfl
            | true=>rw[hp _ i hi' hn hpi] at hm;cases hm
end
open PySem PyProof.Rows
structure Cmp (prog:tj)(w:ud)(A:ue)(s:sL)(O:wX)(key:sW->O.α)(U:sW->Prop)(κ:SortKind):Prop where
 lt:∀(E:sJ->sL->Prop) (st:tK) (x y:sW) (Q:Option Bool->tK->Prop),kindOf st=κ -> U x->U y->Q (some (O.blt (key x) (key y))) st->wpS (tN prog w) A E s (lt' x y) Q st
section
variable  {prog:tj}{w:ud}{A:ue}{E:sJ->sL->Prop}{s:sL}{O:wX}{key:sW->O.α}{U:sW->Prop}{κ:SortKind}
theorem aL {ar:Array sW}{i:Nat}{z:sW}{st:tK}{Q:sW->tK->Prop}(h:ar[i]? = some z)(hq:Q z st):wpS (tN prog w) A E s (elem' ar i) Q st:=by
 rw[elem'_eq,h]
 exact sZ hq
theorem qr (C:Cmp prog w A s O key U κ){ky:sW}{ar:Array sW}{bs n ht:Nat}{st:tK}{Q:Option Nat->tK->Prop}(g:Nat->sW)(hk:kindOf st=κ)(uk:U ky)
  (hg:∀i,i<n->ar[bs+i]? = some (g i)) (hu:∀i,i<n->U (g i)) (hs:∀i j,i<=j->j<n->O.kle (key (g i)) (key (g j))) (hh:ht<n)
  (h:∀k,k<=n->(∀i,i<k->O.kle (key (g i)) (key ky))->(∀i,k<=i->i<n->O.klt (key ky) (key (g i)))->Q (some k) st):wpS (tN prog w) A E s (gal false ky ar bs n ht) Q st:=by
 refine mf (λi => !O.blt (key ky) (key (g i))) (λi hi R hr =>?_) (λi j hij hj hp =>?_) hh (λk hk' h1 h2=>h k hk' (λi hi =>?_) λi hi hn =>?_)
 ·refine sR (aL (hg i hi) ?_)
  rw[if_neg (by simp)]
  exact sR (C.lt _ st ky (g i) _ hk uk (hu i hi) (sZ hr))
 ·have a1:O.blt (key ky) (key (g j))=false:=by simpa using hp
  have a2:O.kle (key (g i)) (key ky):=tZ (hs i j hij hj) a1
  have a3:O.blt (key ky) (key (g i))=false:=a2
  simp[a3]
 ·have a1:=h1 i hi
  exact (by simpa using a1:O.blt (key ky) (key (g i))=false)
 ·have a1:=h2 i hi hn
  exact (by simpa using a1:O.blt (key ky) (key (g i))=true)
theorem qt (C:Cmp prog w A s O key U κ){ky:sW}{ar:Array sW}{bs n ht:Nat}{st:tK}{Q:Option Nat->tK->Prop}(g:Nat->sW)(hk:kindOf st=κ)(uk:U ky)
  (hg:∀i,i<n->ar[bs+i]? = some (g i)) (hu:∀i,i<n->U (g i)) (hs:∀i j,i<=j->j<n->O.kle (key (g i)) (key (g j))) (hh:ht<n)
  (h:∀k,k<=n->(∀i,i<k->O.klt (key (g i)) (key ky))->(∀i,k<=i->i<n->O.kle (key ky) (key (g i)))->Q (some k) st):wpS (tN prog w) A E s (gal true ky ar bs n ht) Q st:=by
 refine mf (λi=>O.blt (key (g i)) (key ky)) (λi hi R hr =>?_) (λi j hij hj hp =>?_) hh (λk hk' h1 h2=>h k hk' (λi hi=>h1 i hi) λi hi hn=>h2 i hi hn)
 ·refine sR (aL (hg i hi) ?_)
  rw[if_pos rfl]
  exact C.lt _ st (g i) ky _ hk (hu i hi) uk hr
 ·exact KeyOrd.klt_of_kle_of_klt (hs i j hij hj) hp
end
open PySem PyProof.Rows
section
variable  {O:wX}(key:sW->O.α)
def Le (p q:sW):Prop:=O.kle (key p) (key q)
structure MW (a b o:Array sW)(x y:Nat):Prop where
 hx:x<=a.size
 hy:y<=b.size
 perm:(o.toList++(a.toList.drop x++b.toList.drop y)).Perm (a.toList++b.toList)
 sorted:o.toList.Pairwise (Le key)
 below:∀p∈o.toList,∀z∈a.toList.drop x++b.toList.drop y,Le key p z
def cq (a b r:Array sW):Prop:=r.toList.Perm (a.toList++b.toList)/\r.toList.Pairwise (Le key)
variable  {key}
theorem MW.fin {a b o:Array sW}{x y:Nat}(m:MW key a b o x y){t:List sW}{r:Array sW}(hr:r.toList=o.toList++t)(ht:t.Perm (a.toList.drop x++b.toList.drop y))(hs:t.Pairwise (Le key)):cq key a b r:=by
 unfold cq
 rw[hr]
 exact ⟨(u5 _ ht).trans m.perm,uD.mpr ⟨m.sorted,hs,λp hp q hq=>m.below p hp q (ht.mem_iff.mp hq)⟩⟩
theorem MW.take {a b o:Array sW}{x y x' y':Nat}(m:MW key a b o x y){t:List sW}{r:Array sW}(hr:r.toList=o.toList++t)(hx:x'<=a.size)(hy:y'<=b.size)
  (ht:(t++(a.toList.drop x'++b.toList.drop y')).Perm (a.toList.drop x++b.toList.drop y)) (hs:t.Pairwise (Le key)) (hb:∀p∈t,∀z∈a.toList.drop x'++b.toList.drop y',Le key p z):MW key a b r x' y':=by
 have sub:∀z,z∈t\/z∈a.toList.drop x'++b.toList.drop y'->z∈a.toList.drop x++b.toList.drop y:=λz hz=>ht.mem_iff.mp (tO.mpr hz)
 refine ⟨hx,hy,?_,?_,?_⟩
 ·rw[hr,t8]
  exact (u5 _ ht).trans m.perm
 ·rw[hr]
  exact uD.mpr ⟨m.sorted,hs,λp hp q hq=>m.below p hp q (sub q (.inl hq))⟩
 ·rw[hr]
  intro p hp z hz
  rcases tO.mp hp with h | h
  ·exact m.below p h z (sub z (.inr hz))
  ·exact hb p h z hz
theorem drop_cons {α:Type}{l:List α}{i:Nat}{z:α}(h:l[i]? = some z):l.drop i=z :: l.drop (i+1):=by
 obtain ⟨hi,e⟩:=sQ.mp h
 rw[List.drop_eq_getElem_cons hi,e]
theorem drop_take {α:Type}(l:List α)(i k:Nat):l.drop i=(l.drop i).take k++l.drop (i+k):=by
 rw[<- zh,vp]
theorem ax {a:Array sW}{i:Nat}{z:sW}(h:a[i]? = some z):a.toList[i]? = some z:=by rw[tq];exact h
theorem MW.eR {a b o:Array sW}{x y:Nat}{z:sW}(m:MW key a b o x y)(h:a[x]? = some z)(ha:a.toList.Pairwise (Le key))(hb:∀t∈b.toList.drop y,Le key z t):MW key a b (o.push z) (x+1) y:=by
 have e:=drop_cons (ax h)
 have hx:x<a.size:=(uU.mp h).1
 have pa:(z :: a.toList.drop (x+1)).Pairwise (Le key):=by rw[<- e];exact ha.sublist (uq _ _)
 refine m.take (t:=[z]) (by rw[vd]) hx m.hy (by rw[e];exact xr _) (uO _ _) λp hp t ht =>?_
 have ep:p=z:=by simpa using hp
 subst ep
 rcases tO.mp ht with q | q
 ·exact (yu.mp pa).1 t q
 ·exact hb t q
theorem MW.gv {a b o:Array sW}{x y:Nat}{z:sW}(m:MW key a b o x y)(h:b[y]? = some z)(hb:b.toList.Pairwise (Le key))(ha:∀t∈a.toList.drop x,Le key z t):MW key a b (o.push z) x (y+1):=by
 have e:=drop_cons (ax h)
 have hy:y<b.size:=(uU.mp h).1
 have pb:(z :: b.toList.drop (y+1)).Pairwise (Le key):=by rw[<- e];exact hb.sublist (uq _ _)
 refine m.take (t:=[z]) (by rw[vd]) m.hx hy (by rw[e,List.singleton_append];exact List.perm_middle.symm) (uO _ _) λp hp t ht =>?_
 have ep:p=z:=by simpa using hp
 subst ep
 rcases tO.mp ht with q | q
 ·exact ha t q
 ·exact (yu.mp pb).1 t q
theorem ext_toList (a:Array sW)(x k:Nat):(a.extract x (x+k)).toList=(a.toList.drop x).take k:=by
 rw[uJ,uj,vA]
theorem c0 (a:Array sW)(x:Nat):(a.extract x a.size).toList=a.toList.drop x:=by
 rw[uJ,uj]
 exact uV (by rw[uL,sU];exact sS _)
theorem ay {l:List sW}(h:l.Pairwise (Le key)){i j:Nat}{p q:sW}(hi:l[i]? = some p)(hj:l[j]? = some q)(hij:i<=j):Le key p q:=by
 by_cases e:i=j
 ·subst e
  rw[hi] at hj
  cases hj
  exact uP _
 ·obtain ⟨h1,e1⟩:=sQ.mp hi
  obtain ⟨h2,e2⟩:=sQ.mp hj
  have:=vq.mp h i j h1 h2 (by omega)
  rw[e1,e2] at this
  exact this
theorem aK {l:List sW}{i:Nat}{t:sW}(h:t∈l.drop i):∃j,i<=j/\l[j]? = some t:=by
 obtain ⟨n,e⟩:=uc.mp h
 rw[wc] at e
 exact ⟨i+n,by omega,e⟩
theorem eS {l:List sW}{i k:Nat}{t:sW}(h:t∈(l.drop i).take k):∃j,j<k/\l[i+j]? = some t:=by
 obtain ⟨n,e⟩:=uc.mp h
 rw[u6] at e
 split at e
 ·rw[wc] at e
  exact ⟨n,by omega,e⟩
 ·cases e
theorem MW.mh {a b o:Array sW}{x y k:Nat}(m:MW key a b o x y)(hk:x+k<=a.size)(ha:a.toList.Pairwise (Le key))(hb:∀j p,j<k->a.toList[x+j]? = some p->∀t∈b.toList.drop y,Le key p t):MW key a b (o++a.extract x (x+k)) (x+k) y:=by
 refine m.take (t:=(a.toList.drop x).take k) (by rw[tT,ext_toList]) hk m.hy ?_ ?_ λp hp t ht =>?_
 ·rw[<- t8, <- drop_take]
 ·exact ha.sublist ((uB _ _).trans (uq _ _))
 ·obtain ⟨j,hj,e⟩:=eS hp
  rcases tO.mp ht with q | q
  ·obtain ⟨i,hi,e2⟩:=aK q
   exact ay ha e e2 (by omega)
  ·exact hb j p hj e t q
theorem MW.mi {a b o:Array sW}{x y k:Nat}(m:MW key a b o x y)(hk:y+k<=b.size)(hb:b.toList.Pairwise (Le key))(ha:∀j p,j<k->b.toList[y+j]? = some p->∀t∈a.toList.drop x,Le key p t):MW key a b (o++b.extract y (y+k)) x (y+k):=by
 refine m.take (t:=(b.toList.drop y).take k) (by rw[tT,ext_toList]) m.hx hk ?_ ?_ λp hp t ht =>?_
 ·rw[drop_take b.toList y k]
  have e:((b.toList.drop y).take k++b.toList.drop (y+k)).take k=(b.toList.drop y).take k:=by rw[<- drop_take]
  rw[e]
  refine (List.perm_append_comm_assoc _ _ _)
 ·exact hb.sublist ((uB _ _).trans (uq _ _))
 ·obtain ⟨j,hj,e⟩:=eS hp
  rcases tO.mp ht with q | q
  ·exact ha j p hj e t q
  ·obtain ⟨i,hi,e2⟩:=aK q
   exact ay hb e e2 (by omega)
theorem MW.lu {a b o:Array sW}{x y:Nat}(m:MW key a b o x y)(ha:a.toList.Pairwise (Le key))(hy:y=b.size):cq key a b (o++a.extract x a.size++b.extract y b.size):=by
 subst hy
 have e:b.toList.drop b.size=[]:=xT (by rw[sU];exact sS _)
 refine m.fin (t:=a.toList.drop x) (by rw[tT,tT,c0,c0,e,uA]) (by rw[e,uA]) (ha.sublist (uq _ _))
theorem MW.lx {a b o:Array sW}{x y:Nat}(m:MW key a b o x y)(hb:b.toList.Pairwise (Le key))(hx:x=a.size):cq key a b (o++a.extract x a.size++b.extract y b.size):=by
 subst hx
 have e:a.toList.drop a.size=[]:=xT (by rw[sU];exact sS _)
 refine m.fin (t:=b.toList.drop y) (by rw[tT,tT,c0,c0,e,uA]) (by rw[e,wb]) (hb.sublist (uq _ _))
theorem MW.last {a b o:Array sW}{x y:Nat}(m:MW key a b o x y)(ha:a.toList.Pairwise (Le key))(hb:b.toList.Pairwise (Le key))(hx:x+1=a.size)(hl:∀p q,p∈b.toList->a[a.size-1]? = some q->Le key p q):cq key a b (o++b.extract y b.size++a.extract x a.size):=by
 refine m.fin (t:=b.toList.drop y++a.toList.drop x) (by rw[tT,tT,c0,c0,t8]) vO ?_
 refine uD.mpr ⟨hb.sublist (uq _ _),ha.sublist (uq _ _),λp hp q hq=>hl p q (u9 hp) ?_⟩
 obtain ⟨i,hi,e⟩:=aK hq
 rw[tq] at e
 have hi2:i<a.size:=(uU.mp e).1
 rw[show a.size-1=i by omega]
 exact e
theorem MW.size {a b o:Array sW}{x y:Nat}(m:MW key a b o x y):o.size+(a.size-x)+(b.size-y)=a.size+b.size:=by
 have e:=m.perm.length_eq
 simp only[tw,uL,sU] at e
 omega
end
structure Sm (st st':tK):Prop where
 k:kindOf st'=kindOf st
 a:tf st'=tf st
 p:tJ st'=tJ st
 f:failedOf st'=failedOf st
theorem Sm.refl (st:tK):Sm st st:=⟨rfl,rfl,rfl,rfl⟩
theorem Sm.mg {st st':tK}(h:Sm st st')(n:Nat):Sm st (SortSt.mk' (kindOf st') (tf st') (tJ st') n (failedOf st')):=⟨h.k,h.a,h.p,h.f⟩
open PySem PyProof.Rows
section
variable  {prog:tj}{w:ud}{A:ue}{E:sJ->sL->Prop}{s:sL}{O:wX}{key:sW->O.α}{U:sW->Prop}{κ:SortKind}
theorem aN {a:Array sW}{i:Nat}(h:i<a.size):∃z,a[i]? = some z:=⟨a[i],by simp[h]⟩
theorem bh {a:Array sW}{i:Nat}{z:sW}(h:a[i]? = some z):z∈a.toList:=uc.mpr ⟨i,by rw[tq];exact h⟩
theorem ltq {x n:Nat}(h:x<=n)(c:¬ (x == n)=true):x<n:=yv h λz=>c (beq_iff_eq.mpr z)
abbrev LoC:=Option (Array sW)×Array sW×Nat×Nat×Nat×Nat×Nat
def oi (a b o:Array sW)(x y mg ac bc:Nat):StateT tK Sem (ForInStep LoC):=do
  let z ← elem' a x
  if (x+1+1 == a.size)=true then pure (.done (some (o.push z++b.extract y b.size++a.extract (x+1) a.size),o.push z,x+1,y,mg,ac,bc))
  else if (decide (ac<7) && decide (bc<7))=true then pure (.done (none,o.push z,x+1,y,mg,ac,bc))
  else pure (.yield (none,o.push z,x+1,y,mg,ac,bc))
def oj (a b o:Array sW)(x y mg ac bc:Nat):StateT tK Sem (ForInStep LoC):=do
  let z ← elem' b y
  if (y+1 == b.size)=true then pure (.done (some (o.push z++a.extract x a.size++b.extract (y+1) b.size),o.push z,x,y+1,mg,ac,bc))
  else do
    let z2 ← elem' a x
    let __x ← gal true z2 b (y+1) (b.size-(y+1)) 0
    match __x with
    | some k =>
      if k>0 then
        if (y+1+k == b.size)=true then pure (.done (some (o.push z++b.extract (y+1) (y+1+k)++a.extract x a.size++b.extract (y+1+k) b.size),o.push z++b.extract (y+1) (y+1+k),x,y+1+k,mg,ac,k))
        else oi a b (o.push z++b.extract (y+1) (y+1+k)) x (y+1+k) mg ac k
      else oi a b (o.push z) x (y+1) mg ac k
    | _=>pure (.done (some (o.push z++a.extract x a.size++b.extract (y+1) b.size),o.push z,x,y+1,mg,ac,bc))
def ly (a b p:Array sW)(x y ac bc mg:Nat):StateT tK Sem (ForInStep LoC):=do
  modify (λs=>SortSt.mk' (kindOf s) (tf s) (tJ s) mg (failedOf s))
  let z ← elem' b y
  let __x ← gal false z a x (a.size-x) 0
  match __x with
  | some k =>
    if k>0 then
      if (x+k+1 == a.size)=true then pure (.done (some (p++a.extract x (x+k)++b.extract y b.size++a.extract (x+k) a.size),p++a.extract x (x+k),x+k,y,mg,k,bc))
      else if (x+k == a.size)=true then pure (.done (some (p++a.extract x (x+k)++a.extract (x+k) a.size++b.extract y b.size),p++a.extract x (x+k),x+k,y,mg,k,bc))
      else oj a b (p++a.extract x (x+k)) (x+k) y mg k bc
    else oj a b p x y mg k bc
  | _=>pure (.done (some (p++a.extract x a.size++b.extract y b.size),p,x,y,mg,ac,bc))
def LoQ (key:sW->O.α)(a b:Array sW)(st:tK)(n:Nat)(r:ForInStep LoC)(st':tK):Prop:=match r with
 | .done c=>Sm st st'/\((∃r p x y mg ac bc,c=(some r,p,x,y,mg,ac,bc)/\cq key a b r)\/∃p x y mg ac bc,c=(none,p,x,y,mg,ac,bc)/\MW key a b p x y/\x+1<a.size/\y<b.size/\n<=p.size)
 | .yield c=>Sm st st'/\∃p x y mg ac bc,c=(none,p,x,y,mg,ac,bc)/\MW key a b p x y/\x+1<a.size/\y<b.size/\n<=p.size
theorem LoQ.out {a b:Array sW}{st st':tK}{n:Nat}{r:Array sW}{c:Array sW×Nat×Nat×Nat×Nat×Nat}(sm:Sm st st')(f:cq key a b r):LoQ key a b st n (.done (some r,c)) st':=by
 obtain ⟨p,x,y,mg,ac,bc⟩:=c
 exact ⟨sm,.inl ⟨_,_,_,_,_,_,_,rfl,f⟩⟩
theorem jY {a b:Array sW}{st st':tK}(ha:a.toList.Pairwise (Le key))(hb:b.toList.Pairwise (Le key))(hl:∀p q,p∈b.toList->a[a.size-1]? = some q->Le key p q)
  {o:Array sW} {x y mg ac bc n:Nat} {za:sW} (sm:Sm st st') (ea:a[x]? = some za) (m4:MW key a b (o.push za) (x+1) y) (hx:x+1<a.size) (hy:y<b.size) (hn:n<=o.size):wpS (tN prog w) A E s (oi a b o x y mg ac bc) (LoQ key a b st n) st':=by
 unfold oi
 refine sR (aL ea ?_)
 by_cases d5:(x+1+1 == a.size)=true
 ·rw[if_pos d5]
  exact sZ (LoQ.out sm (m4.last ha hb (beq_iff_eq.mp d5) hl))
 rw[if_neg d5]
 have hx2:x+1+1<a.size:=ltq hx d5
 have hn':n<=(o.push za).size:=by rw[vP];exact vT hn
 split
 ·exact sZ ⟨sm,.inr ⟨_,_,_,_,_,_,rfl,m4,hx2,hy,hn'⟩⟩
 ·exact sZ ⟨sm,_,_,_,_,_,_,rfl,m4,hx2,hy,hn'⟩
theorem jZ (C:Cmp prog w A s O key U κ){a b:Array sW}{st st':tK}(hκ:kindOf st=κ)(ua:∀p∈a.toList,U p)(ub:∀p∈b.toList,U p)
  (ha:a.toList.Pairwise (Le key)) (hb:b.toList.Pairwise (Le key)) (hl:∀p q,p∈b.toList->a[a.size-1]? = some q->Le key p q)
  {o:Array sW} {x y mg ac bc n:Nat} {zb:sW} (sm:Sm st st') (eb:b[y]? = some zb) (mk:MW key a b o x y) (bl:∀t∈a.toList.drop x,Le key zb t) (hx1:x+1<a.size) (hy:y<b.size) (hn:n<=o.size):wpS (tN prog w) A E s (oj a b o x y mg ac bc) (LoQ key a b st n) st':=by
 unfold oj
 refine sR (aL eb ?_)
 have m2:=mk.gv eb hb bl
 by_cases d3:(y+1 == b.size)=true
 ·rw[if_pos d3]
  exact sZ (LoQ.out sm (m2.lu ha (beq_iff_eq.mp d3)))
 rw[if_neg d3]
 have hy1:y+1<b.size:=ltq hy d3
 have hxa:x<a.size:=xy hx1
 obtain ⟨za,ea⟩:=aN hxa
 refine sR (aL ea ?_)
 refine sR (qt C (λi=>(b[y+1+i]?).getD za) (sm.k.trans hκ) (ua _ (bh ea)) (λi hi =>?_) (λi hi =>?_) (λi j hij hj =>?_) (yG hy1) λk1 hk1 g1 g2 =>?_)
 ·obtain ⟨z,e⟩:=aN (show y+1+i<b.size by omega)
  rw[e];rfl
 ·obtain ⟨z,e⟩:=aN (show y+1+i<b.size by omega)
  rw[e];exact ub _ (bh e)
 ·obtain ⟨z,e⟩:=aN (show y+1+i<b.size by omega)
  obtain ⟨z',e'⟩:=aN (show y+1+j<b.size by omega)
  rw[e,e'];exact ay hb (ax e) (ax e') (uG hij _)
 dsimp only at g1 g2 ⊢
 have tb:∀j q,j<k1->b.toList[y+1+j]? = some q->∀t∈a.toList.drop x,Le key q t:=λj q hj e t ht=>by
  have z:=g1 j hj
  rw[tq] at e
  rw[e] at z
  obtain ⟨n,hn,e2⟩:=aK ht
  exact tZ (uC z) (ay ha (ax ea) e2 hn)
 have hk1':y+1+k1<=b.size:=by omega
 have m3:=m2.mi (k:=k1) hk1' hb tb
 have bl2:∀t∈b.toList.drop (y+1+k1),Le key za t:=λt ht=>by
  obtain ⟨n,hn,e2⟩:=aK ht
  rw[tq] at e2
  have hn2:n<b.size:=(uU.mp e2).1
  have z:=g2 (n-(y+1)) (by omega) (by omega)
  rw[show y+1+(n-(y+1))=n by omega,e2] at z
  exact z
 have hn1:n<=(o.push zb).size:=by rw[vP];exact vT hn
 by_cases k2:k1>0
 ·rw[if_pos k2]
  by_cases d4:(y+1+k1 == b.size)=true
  ·rw[if_pos d4]
   exact sZ (LoQ.out sm (m3.lu ha (beq_iff_eq.mp d4)))
  rw[if_neg d4]
  exact jY ha hb hl sm ea (m3.eR ea ha bl2) hx1 (ltq hk1' d4) (tM hn1 (by rw[vv];exact vD _ _))
 ·rw[if_neg k2]
  obtain rfl:k1=0:=vH k2
  exact jY ha hb hl sm ea (m2.eR ea ha bl2) hx1 hy1 hn1
theorem j4 (C:Cmp prog w A s O key U κ){a b:Array sW}{st st':tK}(hκ:kindOf st=κ)(ua:∀p∈a.toList,U p)(ub:∀p∈b.toList,U p)
  (ha:a.toList.Pairwise (Le key)) (hb:b.toList.Pairwise (Le key)) (hl:∀p q,p∈b.toList->a[a.size-1]? = some q->Le key p q)
  {p:Array sW} {x y ac bc n:Nat} (mg:Nat) (sm:Sm st st') (m:MW key a b p x y) (hx:x+1<a.size) (hy:y<b.size) (hn:n<=p.size):wpS (tN prog w) A E s (ly a b p x y ac bc mg) (LoQ key a b st n) st':=by
 unfold ly
 obtain ⟨zb,eb⟩:=aN hy
 refine sR (ve ?_)
 refine sR (aL eb ?_)
 refine sR (qr C (λi=>(a[x+i]?).getD zb) ((sm.mg _).k.trans hκ) (ub _ (bh eb)) (λi hi =>?_) (λi hi =>?_) (λi j hij hj =>?_) (yG (xy hx)) λk hk h1 h2 =>?_)
 ·obtain ⟨z,e⟩:=aN (show x+i<a.size by omega)
  rw[e];rfl
 ·obtain ⟨z,e⟩:=aN (show x+i<a.size by omega)
  rw[e];exact ua _ (bh e)
 ·obtain ⟨z,e⟩:=aN (show x+i<a.size by omega)
  obtain ⟨z',e'⟩:=aN (show x+j<a.size by omega)
  rw[e,e'];exact ay ha (ax e) (ax e') (uG hij _)
 dsimp only at h1 h2 ⊢
 have ta:∀j q,j<k->a.toList[x+j]? = some q->∀t∈b.toList.drop y,Le key q t:=λj q hj e t ht=>by
  have z:=h1 j hj
  rw[tq] at e
  rw[e] at z
  obtain ⟨n,hn,e2⟩:=aK ht
  exact tZ (show O.kle (key q) (key zb) from z) (ay hb (ax eb) e2 hn)
 have hk':x+k<=a.size:=by omega
 have mk:=m.mh (k:=k) hk' ha ta
 have bl:∀t∈a.toList.drop (x+k),Le key zb t:=λt ht=>by
  obtain ⟨n,hn,e2⟩:=aK ht
  rw[tq] at e2
  have hn2:n<a.size:=(uU.mp e2).1
  have z:=h2 (n-x) (by omega) (by omega)
  rw[show x+(n-x)=n by omega,e2] at z
  exact uC z
 by_cases k0:k>0
 ·rw[if_pos k0]
  by_cases d1:(x+k+1 == a.size)=true
  ·rw[if_pos d1]
   exact sZ (LoQ.out (sm.mg _) (mk.last ha hb (beq_iff_eq.mp d1) hl))
  rw[if_neg d1]
  by_cases d2:(x+k == a.size)=true
  ·rw[if_pos d2]
   exact sZ (LoQ.out (sm.mg _) (mk.lx hb (beq_iff_eq.mp d2)))
  rw[if_neg d2]
  exact jZ C hκ ua ub ha hb hl (sm.mg _) eb mk bl (ltq (ltq hk' d2) d1) hy (tM hn (by rw[vv];exact vD _ _))
 ·rw[if_neg k0]
  obtain rfl:k=0:=vH k0
  exact jZ C hκ ua ub ha hb hl (sm.mg _) eb m bl hx hy hn
theorem om (C:Cmp prog w A s O key U κ){a b:Array sW}{st st':tK}(hκ:kindOf st=κ)(ua:∀p∈a.toList,U p)(ub:∀p∈b.toList,U p)
  (ha:a.toList.Pairwise (Le key)) (hb:b.toList.Pairwise (Le key)) (hl:∀p q,p∈b.toList->a[a.size-1]? = some q->Le key p q)
  {p:Array sW} {x y ac bc n mg:Nat} (sm:Sm st st') (m:MW key a b p x y) (hx:x+1<a.size) (hy:y<b.size) (hn:n<=p.size):wpS (tN prog w) A E s (if mg>1 then ly a b p x y ac bc (mg-1) else ly a b p x y ac bc mg) (LoQ key a b st n) st':=by
 split
 ·exact j4 C hκ ua ub ha hb hl (mg-1) sm m hx hy hn
 ·exact j4 C hκ ua ub ha hb hl mg sm m hx hy hn
abbrev LoD:=Option (Array sW)×Array sW×Nat×Nat×Nat×Nat
abbrev LoE:=Option (Array sW)×Array sW×Nat×Nat×Nat
def mj (a b:Array sW)(mg:Nat)(c:LoD):StateT tK Sem (ForInStep LoD):=do
  let u ← elem' b c.2.2.2.1
  let v ← elem' a c.2.2.1
  let __x ← lt' u v
  match __x with
  | some bw =>
    if bw=true then do
      let z ← elem' b c.2.2.2.1
      if (c.2.2.2.1+1 == b.size)=true then pure (.done (some (c.2.1.push z++a.extract c.2.2.1 a.size++b.extract (c.2.2.2.1+1) b.size),c.2.1.push z,c.2.2.1,c.2.2.2.1+1,0,c.2.2.2.2.2+1))
      else if c.2.2.2.2.2+1≥mg then pure (.done (none,c.2.1.push z,c.2.2.1,c.2.2.2.1+1,0,c.2.2.2.2.2+1))
      else pure (.yield (none,c.2.1.push z,c.2.2.1,c.2.2.2.1+1,0,c.2.2.2.2.2+1))
    else do
      let z ← elem' a c.2.2.1
      if (c.2.2.1+1+1 == a.size)=true then pure (.done (some (c.2.1.push z++b.extract c.2.2.2.1 b.size++a.extract (c.2.2.1+1) a.size),c.2.1.push z,c.2.2.1+1,c.2.2.2.1,c.2.2.2.2.1+1,0))
      else if c.2.2.2.2.1+1≥mg then pure (.done (none,c.2.1.push z,c.2.2.1+1,c.2.2.2.1,c.2.2.2.2.1+1,0))
      else pure (.yield (none,c.2.1.push z,c.2.2.1+1,c.2.2.2.1,c.2.2.2.2.1+1,0))
  | _=>pure (.done (some (c.2.1++a.extract c.2.2.1 a.size++b.extract c.2.2.2.1 b.size),c.2.1,c.2.2.1,c.2.2.2.1,c.2.2.2.2.1,c.2.2.2.2.2))
def qu (a b:Array sW)(c:LoC):StateT tK Sem (ForInStep LoC) :=
 if c.2.2.2.2.1>1 then ly a b c.2.1 c.2.2.1 c.2.2.2.1 c.2.2.2.2.2.1 c.2.2.2.2.2.2 (c.2.2.2.2.1-1) else ly a b c.2.1 c.2.2.1 c.2.2.2.1 c.2.2.2.2.2.1 c.2.2.2.2.2.2 c.2.2.2.2.1
def jy (a b:Array sW)(c:LoE):StateT tK Sem (ForInStep LoE):=do
  let d ← forIn [0:a.size+b.size] ((none,c.2.1,c.2.2.1,c.2.2.2.1,0,0):LoD) λ_ d=>mj a b c.2.2.2.2 d
  match d.1 with
  | some r=>pure (.done (some r,d.2.1,d.2.2.1,d.2.2.2.1,c.2.2.2.2))
  | none=>do
    rule "list.sort.gallop"
    let e ← forIn [0:a.size+b.size] ((none,d.2.1,d.2.2.1,d.2.2.2.1,c.2.2.2.2+1,d.2.2.2.2.1,d.2.2.2.2.2):LoC) λ_ e=>qu a b e
    match e.1 with
    | some r=>pure (.done (some r,e.2.1,e.2.2.1,e.2.2.2.1,e.2.2.2.2.1))
    | none=>do
      modify (λs=>SortSt.mk' (kindOf s) (tf s) (tJ s) (e.2.2.2.2.1+1) (failedOf s))
      pure (.yield (none,e.2.1,e.2.2.1,e.2.2.2.1,e.2.2.2.2.1+1))
theorem oo (a b:Array sW):mLo a b=(do
    rule "list.sort.merge-lo"
    let z ← elem' b 0
    if (1 == b.size)=true then pure (#[z]++a.extract 0 a.size++b.extract 1 b.size)
    else if (0+1 == a.size)=true then pure (#[z]++b.extract 1 b.size++a.extract 0 a.size)
    else do
      let g ← get
      let c ← forIn [0:a.size+b.size] ((none, #[z],0,1,gallopOf g):LoE) λ_ c=>jy a b c
      match c.1 with
      | some r=>pure r
      | none=>unsupported "internal:list.sort.merge-bound"):=by
  kernel_rfl
def LdI (key:sW->O.α)(a b:Array sW)(st:tK)(n:Nat)(c:LoD)(st':tK):Prop:=Sm st st'/\∃o' x y ac bc,c=(none,o',x,y,ac,bc)/\MW key a b o' x y/\x+1<a.size/\y<b.size/\n<=o'.size
def LdQ (key:sW->O.α)(a b:Array sW)(st:tK)(n:Nat)(c:LoD)(st':tK):Prop:=Sm st st'/\((∃r o x y ac bc,c=(some r,o,x,y,ac,bc)/\cq key a b r)\/∃o' x y ac bc,c=(none,o',x,y,ac,bc)/\MW key a b o' x y/\x+1<a.size/\y<b.size/\n<=o'.size)
theorem ml (C:Cmp prog w A s O key U κ){a b:Array sW}{st st':tK}(hκ:kindOf st=κ)(ua:∀p∈a.toList,U p)(ub:∀p∈b.toList,U p)
  (ha:a.toList.Pairwise (Le key)) (hb:b.toList.Pairwise (Le key)) (hl:∀p q,p∈b.toList->a[a.size-1]? = some q->Le key p q)
  {mg n m':Nat} {c:LoD} (I:LdI key a b st n c st') (hm:m'<=n+1) {Q:ForInStep LoD->tK->Prop} (h:∀r st',(match r with | .done c'=>LdQ key a b st (n+1) c' st' | .yield c'=>LdI key a b st m' c' st')->Q r st'):wpS (tN prog w) A E s (mj a b mg c) Q st':=by
 obtain ⟨sm2,o',x,y,ac,bc,rfl,m,hx,hy,hz⟩:=I
 unfold mj
 obtain ⟨za,ea⟩:=aN (xy hx)
 obtain ⟨zb,eb⟩:=aN hy
 refine sR (aL eb (sR (aL ea (sR (C.lt _ st' zb za _ (sm2.k.trans hκ) (ub _ (bh eb)) (ua _ (bh ea)) ?_)))))
 dsimp only
 have sz:∀z,n+1<=(o'.push z).size:=λz=>by rw[vP];exact yT hz
 cases hlt:O.blt (key zb) (key za) with
 | true =>
  rw[if_pos rfl]
  refine sR (aL eb ?_)
  have m1:=m.gv eb hb λt ht=>by
   obtain ⟨n,hn,e⟩:=aK ht
   exact tZ (uC hlt) (ay ha (ax ea) e hn)
  by_cases c3:(y+1 == b.size)=true
  ·rw[if_pos c3]
   exact sZ (h _ _ ⟨sm2,.inl ⟨_,_,_,_,_,_,rfl,m1.lu ha (beq_iff_eq.mp c3)⟩⟩)
  ·rw[if_neg c3]
   have c3':=ltq hy c3
   split
   ·exact sZ (h _ _ ⟨sm2,.inr ⟨_,_,_,_,_,rfl,m1,hx,c3',sz _⟩⟩)
   ·exact sZ (h _ _ ⟨sm2,_,_,_,_,_,rfl,m1,hx,c3',tM hm (sz _)⟩)
 | false =>
  rw[if_neg tL]
  refine sR (aL ea ?_)
  have m1:=m.eR ea ha λt ht=>by
   obtain ⟨n,hn,e⟩:=aK ht
   exact tZ (show O.kle (key za) (key zb) from hlt) (ay hb (ax eb) e hn)
  by_cases c3:(x+1+1 == a.size)=true
  ·rw[if_pos c3]
   exact sZ (h _ _ ⟨sm2,.inl ⟨_,_,_,_,_,_,rfl,m1.last ha hb (beq_iff_eq.mp c3) hl⟩⟩)
  ·rw[if_neg c3]
   have c3':=ltq hx c3
   split
   ·exact sZ (h _ _ ⟨sm2,.inr ⟨_,_,_,_,_,rfl,m1,c3',hy,sz _⟩⟩)
   ·exact sZ (h _ _ ⟨sm2,_,_,_,_,_,rfl,m1,c3',hy,tM hm (sz _)⟩)
def LeI (key:sW->O.α)(a b:Array sW)(st:tK)(n:Nat)(c:LoE)(st':tK):Prop:=Sm st st'/\∃o x y mg,c=(none,o,x,y,mg)/\MW key a b o x y/\x+1<a.size/\y<b.size/\n+1<=o.size
def LeQ (key:sW->O.α)(a b:Array sW)(st:tK)(c:LoE)(st':tK):Prop:=Sm st st'/\((∃r o x y mg,c=(some r,o,x,y,mg)/\cq key a b r)\/∃o x y mg,c=(none,o,x,y,mg)/\MW key a b o x y/\x+1<a.size/\y<b.size/\a.size+b.size+1<=o.size)
theorem lA (C:Cmp prog w A s O key U κ){a b:Array sW}{st st':tK}(hκ:kindOf st=κ)(ua:∀p∈a.toList,U p)(ub:∀p∈b.toList,U p)
  (ha:a.toList.Pairwise (Le key)) (hb:b.toList.Pairwise (Le key)) (na:0<a.size) (hl:∀p q,p∈b.toList->a[a.size-1]? = some q->Le key p q)
  {n:Nat} {c:LoE} (I:LeI key a b st n c st'):wpS (tN prog w) A E s (jy a b c) (λr st'=>match r with | .done c'=>LeQ key a b st c' st' | .yield c'=>LeI key a b st (n+1) c' st') st':=by
 obtain ⟨sm1,o,x,y,mg,rfl,m,hx,hy,hz⟩:=I
 unfold jy
 have q1:1<=a.size+b.size:=tM na (vD _ _)
 refine sR (uZ (uu (I:=λj c st'=>LdI key a b st (o.size+min j 1) c st') (Q:=LdQ key a b st (o.size+1)) (λj c st2 _ hj J=>ml (n:=o.size+min j 1) (m':=o.size+min (j+1) 1) C hκ ua ub ha hb hl J (by omega) λr st' k =>?_) (λc st' J =>?_) ⟨sm1,o,x,y,0,0,rfl,m,hx,hy,sS _⟩) ?_)
 ·cases r with
  | done c'=>exact k.imp id λz=>z.imp id λ⟨o',x,y,ac,bc,e,m,hx,hy,hz⟩=>⟨o',x,y,ac,bc,e,m,hx,hy,by omega⟩
  | yield c'=>exact k
 ·obtain ⟨sm,o',x,y,ac,bc,e,m,hx,hy,hz⟩:=J
  exact ⟨sm,.inr ⟨o',x,y,ac,bc,e,m,hx,hy,by omega⟩⟩
 rintro c st2 ⟨sm2,⟨r,o',x,y,ac,bc,rfl,fr⟩ | ⟨o',x,y,ac,bc,rfl,m,hx,hy,hz2⟩⟩
 ·exact sZ ⟨sm2,.inl ⟨_,_,_,_,_,rfl,fr⟩⟩
 dsimp only
 refine sR (xK (wu ⟨rfl,?_⟩))
 refine sR (uZ (uu (I:=λ_ c st'=>LoQ key a b st o'.size (.yield c) st') (Q:=λc st'=>LoQ key a b st o'.size (.done c) st') (λj c st3 _ hj J =>?_) (λc st' J=>⟨J.1,.inr J.2⟩) ⟨sm2,o',x,y,_,ac,bc,rfl,m,hx,hy,sS _⟩) ?_)
 ·obtain ⟨sm3,p,x,y,mg,ac,bc,rfl,m,hx,hy,hz3⟩:=J
  refine uZ (om C hκ ua ub ha hb hl sm3 m hx hy hz3) ?_
  intro r st' h
  cases r <;> exact h
 rintro c st3 ⟨sm3,⟨r,p,x,y,mg,ac,bc,rfl,fr⟩ | ⟨p,x,y,mg,ac,bc,rfl,m,hx,hy,hz3⟩⟩
 ·exact sZ ⟨sm3,.inl ⟨_,_,_,_,_,rfl,fr⟩⟩
 ·dsimp only
  exact sR (ve (sZ ⟨sm3.mg _,p,x,y,_,rfl,m,hx,hy,by omega⟩))
theorem qv (C:Cmp prog w A s O key U κ){a b:Array sW}{st:tK}{Q:Array sW->tK->Prop}(hκ:kindOf st=κ)(ua:∀p∈a.toList,U p)(ub:∀p∈b.toList,U p)
  (ha:a.toList.Pairwise (Le key)) (hb:b.toList.Pairwise (Le key)) (na:0<a.size) (nb:0<b.size) (h0:∀p q,b[0]? = some p->a[0]? = some q->Le key p q) (hl:∀p q,p∈b.toList->a[a.size-1]? = some q->Le key p q)
  (h:∀r st',Sm st st'->cq key a b r->Q r st'):wpS (tN prog w) A E s (mLo a b) Q st:=by
 rw[oo]
 refine sR (xK (wu ⟨rfl,?_⟩))
 obtain ⟨b0,eb0⟩:=aN nb
 obtain ⟨a0,ea0⟩:=aN na
 have a0le:∀t∈a.toList,Le key a0 t:=λt ht=>by
  obtain ⟨i,e⟩:=uc.mp ht
  exact ay ha (ax ea0) e (uz _)
 have m0:MW key a b #[] 0 0:=⟨uz _,uz _,xr _,List.Pairwise.nil,λp hp=>by cases hp⟩
 have m1:MW key a b #[b0] 0 1:=m0.gv eb0 hb λt ht=>tZ (h0 _ _ eb0 ea0) (a0le t ht)
 refine sR (aL eb0 ?_)
 by_cases c1:(1 == b.size)=true
 ·rw[if_pos c1]
  exact sZ (h _ st (Sm.refl st) (m1.lu ha (beq_iff_eq.mp c1)))
 rw[if_neg c1]
 by_cases c2:(0+1 == a.size)=true
 ·rw[if_pos c2]
  exact sZ (h _ st (Sm.refl st) (m1.last ha hb (beq_iff_eq.mp c2) hl))
 rw[if_neg c2]
 refine sR (xv ?_)
 refine sR (uZ (uu (I:=λi c st'=>LeI key a b st i c st') (Q:=LeQ key a b st) (λi c st1 _ _ J=>uZ (lA C hκ ua ub ha hb na hl J) λr st' h=>by cases r <;> exact h) (λc st' J =>?_) ⟨Sm.refl st,_,_,_,_,rfl,m1,ltq na c2,ltq nb c1,sS _⟩) ?_)
 ·obtain ⟨sm,o,x,y,mg,e,m,hx,hy,hz⟩:=J
  exact ⟨sm,.inr ⟨o,x,y,mg,e,m,hx,hy,by omega⟩⟩
 rintro c st' ⟨sm,⟨r,o,x,y,mg,rfl,fr⟩ | ⟨o,x,y,mg,rfl,m,hx,hy,hz⟩⟩
 ·exact sZ (h r st' sm fr)
 ·have:=m.size
  omega
end
open PySem PyProof.Rows
section
variable  {O:wX}(key:sW->O.α)
structure MV (a b o:Array sW)(x y:Nat):Prop where
 hx:x<=a.size
 hy:y<=b.size
 perm:((a.toList.take x++b.toList.take y)++o.toList.reverse).Perm (a.toList++b.toList)
 sorted:o.toList.reverse.Pairwise (Le key)
 above:∀p∈a.toList.take x++b.toList.take y,∀q∈o.toList.reverse,Le key p q
variable  {key}
theorem MV.fin {a b o:Array sW}{x y:Nat}(m:MV key a b o x y){t:List sW}{r:Array sW}(hr:r.toList=t++o.toList.reverse)(ht:t.Perm (a.toList.take x++b.toList.take y))(hs:t.Pairwise (Le key)):cq key a b r:=by
 unfold cq
 rw[hr]
 exact ⟨(vk _ ht).trans m.perm,uD.mpr ⟨hs,m.sorted,λp hp q hq=>m.above p (ht.mem_iff.mp hp) q hq⟩⟩
theorem MV.take {a b o:Array sW}{x y x' y':Nat}(m:MV key a b o x y){t:List sW}{r:Array sW}(hr:r.toList.reverse=t++o.toList.reverse)(hx:x'<=a.size)(hy:y'<=b.size)
  (ht:((a.toList.take x'++b.toList.take y')++t).Perm (a.toList.take x++b.toList.take y)) (hs:t.Pairwise (Le key)) (hb:∀p∈a.toList.take x'++b.toList.take y',∀q∈t,Le key p q):MV key a b r x' y':=by
 have sub:∀z,z∈a.toList.take x'++b.toList.take y'\/z∈t->z∈a.toList.take x++b.toList.take y:=λz hz=>ht.mem_iff.mp (tO.mpr hz)
 refine ⟨hx,hy,?_,?_,?_⟩
 ·rw[hr, <- t8]
  exact (vk _ ht).trans m.perm
 ·rw[hr]
  exact uD.mpr ⟨hs,m.sorted,λp hp q hq=>m.above p (sub p (.inr hp)) q hq⟩
 ·rw[hr]
  intro p hp z hz
  rcases tO.mp hz with h | h
  ·exact hb p hp z h
  ·exact m.above p (sub p (.inl hp)) z h
theorem aO {l:List sW}{k:Nat}{t:sW}(h:t∈l.take k):∃j,j<k/\l[j]? = some t:=by
 obtain ⟨n,e⟩:=uc.mp h
 rw[u6] at e
 split at e
 ·exact ⟨n,by omega,e⟩
 ·cases e
theorem gw {l:List sW}{x:Nat}{z:sW}(hx:1<=x)(h:l[x-1]? = some z):l.take x=l.take (x-1)++[z]:=by
 obtain ⟨n,rfl⟩:∃n,x=n+1:=⟨x-1,by omega⟩
 rw[Nat.add_sub_cancel] at h ⊢
 rw[xA,h]
 rfl
theorem j6 (a:Array sW)(c x:Nat)(hx:x<=a.size):(a.extract c x).toList=(a.toList.take x).drop c:=by
 rw[uJ,uj,List.drop_take]
theorem de (a:Array sW)(x:Nat):(a.extract 0 x).toList=a.toList.take x:=by
 rw[uJ,uj,zj,Nat.sub_zero]
theorem MV.eR {a b o:Array sW}{x y:Nat}{z:sW}(m:MV key a b o x y)(h1:1<=x)(h:a[x-1]? = some z)(ha:a.toList.Pairwise (Le key))(hb:∀t∈b.toList.take y,Le key t z):MV key a b (o.push z) (x-1) y:=by
 have e:=gw h1 (ax h)
 refine m.take (t:=[z]) (by rw[vd,v3];rfl) (by have:=m.hx;omega) m.hy ?_ (uO _ _) λp hp q hq =>?_
 ·rw[e,t8,t8]
  exact u5 _ vO
 ·have eq:q=z:=by simpa using hq
  subst eq
  rcases tO.mp hp with r | r
  ·obtain ⟨j,hj,e2⟩:=aO r
   exact ay ha e2 (ax h) (by omega)
  ·exact hb p r
theorem MV.gv {a b o:Array sW}{x y:Nat}{z:sW}(m:MV key a b o x y)(h1:1<=y)(h:b[y-1]? = some z)(hb:b.toList.Pairwise (Le key))(ha:∀t∈a.toList.take x,Le key t z):MV key a b (o.push z) x (y-1):=by
 have e:=gw h1 (ax h)
 refine m.take (t:=[z]) (by rw[vd,v3];rfl) m.hx (by have:=m.hy;omega) ?_ (uO _ _) λp hp q hq =>?_
 ·rw[e,t8]
 ·have eq:q=z:=by simpa using hq
  subst eq
  rcases tO.mp hp with r | r
  ·exact ha p r
  ·obtain ⟨j,hj,e2⟩:=aO r
   exact ay hb e2 (ax h) (by omega)
theorem j7 (l:List sW){c x:Nat}(h:c<=x):l.take x=l.take c++(l.take x).drop c:=by
 have e:(l.take x).take c=l.take c:=by rw[List.take_take,wQ h]
 rw[<- e,vp]
theorem fF {l:List sW}{c x:Nat}{t:sW}(h:t∈(l.take x).drop c):∃j,c<=j/\j<x/\l[j]? = some t:=by
 obtain ⟨j,hj,e⟩:=aK h
 rw[u6] at e
 split at e
 ·exact ⟨j,hj,by omega,e⟩
 ·cases e
theorem MV.mh {a b o:Array sW}{x y c:Nat}(m:MV key a b o x y)(hc:c<=x)(ha:a.toList.Pairwise (Le key))(hb:∀j p,c<=j->j<x->a.toList[j]? = some p->∀t∈b.toList.take y,Le key t p):MV key a b (o++(a.extract c x).reverse) c y:=by
 refine m.take (t:=(a.toList.take x).drop c) (by rw[tT,v3,uS,yh,j6 _ _ _ m.hx]) (tM hc m.hx) m.hy ?_ ?_ λp hp q hq =>?_
 ·refine List.Perm.trans ?_ (vk _ (List.Perm.of_eq (j7 a.toList hc).symm))
  rw[t8,t8]
  exact u5 _ vO
 ·exact ha.sublist ((uq _ _).trans (uB _ _))
 ·obtain ⟨j,h1,h2,e⟩:=fF hq
  rcases tO.mp hp with r | r
  ·obtain ⟨i,hi,e2⟩:=aO r
   exact ay ha e2 e (by omega)
  ·exact hb j q h1 h2 e p r
theorem MV.mi {a b o:Array sW}{x y c:Nat}(m:MV key a b o x y)(hc:c<=y)(hb:b.toList.Pairwise (Le key))(ha:∀j p,c<=j->j<y->b.toList[j]? = some p->∀t∈a.toList.take x,Le key t p):MV key a b (o++(b.extract c y).reverse) x c:=by
 refine m.take (t:=(b.toList.take y).drop c) (by rw[tT,v3,uS,yh,j6 _ _ _ m.hy]) m.hx (tM hc m.hy) ?_ ?_ λp hp q hq =>?_
 ·rw[t8, <- j7 b.toList hc]
 ·exact hb.sublist ((uq _ _).trans (uB _ _))
 ·obtain ⟨j,h1,h2,e⟩:=fF hq
  rcases tO.mp hp with r | r
  ·exact ha j q h1 h2 e p r
  ·obtain ⟨i,hi,e2⟩:=aO r
   exact ay hb e2 e (by omega)
theorem MV.lx {a b o:Array sW}{x y:Nat}(m:MV key a b o x y)(hb:b.toList.Pairwise (Le key))(hx:x=0):cq key a b (a.extract 0 x++b.extract 0 y++o.reverse):=by
 subst hx
 refine m.fin (t:=b.toList.take y) (by rw[tT,tT,de,de,uS,xt,wb]) (by rw[xt,wb]) (hb.sublist (uB _ _))
theorem MV.lu {a b o:Array sW}{x y:Nat}(m:MV key a b o x y)(ha:a.toList.Pairwise (Le key))(hy:y=0):cq key a b (a.extract 0 x++b.extract 0 y++o.reverse):=by
 subst hy
 refine m.fin (t:=a.toList.take x) (by rw[tT,tT,de,de,uS,xt,uA]) (by rw[xt,uA]) (ha.sublist (uB _ _))
theorem MV.first {a b o:Array sW}{x y:Nat}(m:MV key a b o x y)(ha:a.toList.Pairwise (Le key))(hb:b.toList.Pairwise (Le key))(hy:y=1)(hl:∀p q,b[0]? = some p->q∈a.toList->Le key p q):cq key a b (b.extract 0 y++a.extract 0 x++o.reverse):=by
 refine m.fin (t:=b.toList.take y++a.toList.take x) (by rw[tT,tT,de,de,uS]) vO ?_
 refine uD.mpr ⟨hb.sublist (uB _ _),ha.sublist (uB _ _),λp hp q hq=>hl p q ?_ (va hq)⟩
 obtain ⟨i,hi,e⟩:=aO hp
 rw[tq] at e
 rw[show i=0 by omega] at e
 exact e
theorem MV.size {a b o:Array sW}{x y:Nat}(m:MV key a b o x y):o.size+x+y=a.size+b.size:=by
 have e:=m.perm.length_eq
 have h1:=m.hx
 have h2:=m.hy
 simp only[tw,uH,sU,ym] at e
 omega
end
open PySem PyProof.Rows
section
variable  {prog:tj}{w:ud}{A:ue}{E:sJ->sL->Prop}{s:sL}{O:wX}{key:sW->O.α}{U:sW->Prop}{κ:SortKind}
abbrev HiC:=Option (Array sW)×Nat×Nat×Array sW×Nat×Nat×Nat
def oq (a b:Array sW)(x y:Nat)(o:Array sW)(mg ac bc:Nat):StateT tK Sem (ForInStep HiC):=do
  let z ← elem' a (x-1)
  if (x-1 == 0)=true then pure (.done (some (a.extract 0 (x-1)++b.extract 0 y++(o.push z).reverse),x-1,y,o.push z,mg,ac,bc))
  else if (decide (ac<7) && decide (bc<7))=true then pure (.done (none,x-1,y,o.push z,mg,ac,bc))
  else pure (.yield (none,x-1,y,o.push z,mg,ac,bc))
def ot (a b:Array sW)(x y:Nat)(o:Array sW)(mg ac bc:Nat):StateT tK Sem (ForInStep HiC):=do
  let z ← elem' b (y-1)
  if (y-1 == 1)=true then pure (.done (some (b.extract 0 (y-1)++a.extract 0 x++(o.push z).reverse),x,y-1,o.push z,mg,ac,bc))
  else do
    let z2 ← elem' a (x-1)
    let __x ← gal true z2 b 0 (y-1) (y-1-1)
    match __x with
    | some c =>
      if y-1-c>0 then
        if (c == 1)=true then pure (.done (some (b.extract 0 c++a.extract 0 x++(o.push z++(b.extract c (y-1)).reverse).reverse),x,c,o.push z++(b.extract c (y-1)).reverse,mg,ac,y-1-c))
        else if (c == 0)=true then pure (.done (some (a.extract 0 x++b.extract 0 c++(o.push z++(b.extract c (y-1)).reverse).reverse),x,c,o.push z++(b.extract c (y-1)).reverse,mg,ac,y-1-c))
        else oq a b x c (o.push z++(b.extract c (y-1)).reverse) mg ac (y-1-c)
      else oq a b x (y-1) (o.push z) mg ac (y-1-c)
    | _=>pure (.done (some (a.extract 0 x++b.extract 0 (y-1)++(o.push z).reverse),x,y-1,o.push z,mg,ac,bc))
def lB (a b:Array sW)(x y:Nat)(p:Array sW)(ac bc mg:Nat):StateT tK Sem (ForInStep HiC):=do
  modify (λs=>SortSt.mk' (kindOf s) (tf s) (tJ s) mg (failedOf s))
  let z ← elem' b (y-1)
  let __x ← gal false z a 0 x (x-1)
  match __x with
  | some c =>
    if x-c>0 then
      if (c == 0)=true then pure (.done (some (a.extract 0 c++b.extract 0 y++(p++(a.extract c x).reverse).reverse),c,y,p++(a.extract c x).reverse,mg,x-c,bc))
      else ot a b c y (p++(a.extract c x).reverse) mg (x-c) bc
    else ot a b x y p mg (x-c) bc
  | _=>pure (.done (some (a.extract 0 x++b.extract 0 y++p.reverse),x,y,p,mg,ac,bc))
def HiQ (key:sW->O.α)(a b:Array sW)(st:tK)(n:Nat)(r:ForInStep HiC)(st':tK):Prop:=match r with
 | .done c=>Sm st st'/\((∃r x y p mg ac bc,c=(some r,x,y,p,mg,ac,bc)/\cq key a b r)\/∃x y p mg ac bc,c=(none,x,y,p,mg,ac,bc)/\MV key a b p x y/\1<=x/\2<=y/\n<=p.size)
 | .yield c=>Sm st st'/\∃x y p mg ac bc,c=(none,x,y,p,mg,ac,bc)/\MV key a b p x y/\1<=x/\2<=y/\n<=p.size
theorem HiQ.out {a b:Array sW}{st st':tK}{n:Nat}{r:Array sW}{c:Nat×Nat×Array sW×Nat×Nat×Nat}(sm:Sm st st')(f:cq key a b r):HiQ key a b st n (.done (some r,c)) st':=by
 obtain ⟨p,x,y,mg,ac,bc⟩:=c
 exact ⟨sm,.inl ⟨_,_,_,_,_,_,_,rfl,f⟩⟩
theorem mq {x:Nat}(c:¬ (x == 0)=true):1<=x:=Nat.pos_of_ne_zero λz=>c (beq_iff_eq.mpr z)
theorem ou {y:Nat}(h:1<=y)(c:¬ (y == 1)=true):2<=y:=yv h λz=>c (beq_iff_eq.mpr z.symm)
theorem j8 {a b:Array sW}{st st':tK}(hb:b.toList.Pairwise (Le key))
  {o:Array sW} {x y mg ac bc n:Nat} {za:sW} (sm:Sm st st') (ea:a[x-1]? = some za) (m4:MV key a b (o.push za) (x-1) y) (hy:2<=y) (hn:n<=o.size):wpS (tN prog w) A E s (oq a b x y o mg ac bc) (HiQ key a b st n) st':=by
 unfold oq
 refine sR (aL ea ?_)
 by_cases d5:(x-1 == 0)=true
 ·rw[if_pos d5]
  exact sZ (HiQ.out sm (m4.lx hb (beq_iff_eq.mp d5)))
 rw[if_neg d5]
 have hx2:=mq d5
 have hn':n<=(o.push za).size:=by rw[vP];exact vT hn
 split
 ·exact sZ ⟨sm,.inr ⟨_,_,_,_,_,_,rfl,m4,hx2,hy,hn'⟩⟩
 ·exact sZ ⟨sm,_,_,_,_,_,_,rfl,m4,hx2,hy,hn'⟩
theorem j9 (C:Cmp prog w A s O key U κ){a b:Array sW}{st st':tK}(hκ:kindOf st=κ)(ua:∀p∈a.toList,U p)(ub:∀p∈b.toList,U p)
  (ha:a.toList.Pairwise (Le key)) (hb:b.toList.Pairwise (Le key)) (h0:∀p q,b[0]? = some p->q∈a.toList->Le key p q)
  {o:Array sW} {x y mg ac bc n:Nat} {zb:sW} (sm:Sm st st') (eb:b[y-1]? = some zb) (mk:MV key a b o x y) (bl:∀t∈a.toList.take x,Le key t zb) (hx1:1<=x) (hy:2<=y) (hn:n<=o.size):wpS (tN prog w) A E s (ot a b x y o mg ac bc) (HiQ key a b st n) st':=by
 unfold ot
 refine sR (aL eb ?_)
 have m2:=mk.gv (yH hy) eb hb bl
 have y1:1<=y-1:=vb hy
 have bx1:=mk.hx
 have by1:=mk.hy
 by_cases d3:(y-1 == 1)=true
 ·rw[if_pos d3]
  exact sZ (HiQ.out sm (m2.first ha hb (beq_iff_eq.mp d3) h0))
 rw[if_neg d3]
 have hy1:=ou y1 d3
 obtain ⟨za,ea⟩:=aN (show x-1<a.size by omega)
 refine sR (aL ea ?_)
 refine sR (qt C (λi=>(b[i]?).getD za) (sm.k.trans hκ) (ua _ (bh ea)) (λi hi =>?_) (λi hi =>?_) (λi j hij hj =>?_) (wG y1) λc2 hc2 g1 g2 =>?_)
 ·obtain ⟨z,e⟩:=aN (show i<b.size by omega)
  rw[xi,e];rfl
 ·obtain ⟨z,e⟩:=aN (show i<b.size by omega)
  rw[e];exact ub _ (bh e)
 ·obtain ⟨z,e⟩:=aN (show i<b.size by omega)
  obtain ⟨z',e'⟩:=aN (show j<b.size by omega)
  rw[e,e'];exact ay hb (ax e) (ax e') hij
 dsimp only at g1 g2 ⊢
 have tb:∀j q,c2<=j->j<y-1->b.toList[j]? = some q->∀t∈a.toList.take x,Le key t q:=λj q hj hj2 e t ht=>by
  have z:=g2 j hj hj2
  rw[tq] at e
  rw[e] at z
  obtain ⟨n,hn,e2⟩:=aO ht
  exact tZ (ay ha e2 (ax ea) (vb hn)) z
 have m3:=m2.mi hc2 hb tb
 have bl2:∀t∈b.toList.take c2,Le key t za:=λt ht=>by
  obtain ⟨n,hn,e2⟩:=aO ht
  rw[tq] at e2
  have z:=g1 n hn
  rw[e2] at z
  exact uC z
 have hn1:n<=(o.push zb).size:=by rw[vP];exact vT hn
 by_cases k2:y-1-c2>0
 ·rw[if_pos k2]
  by_cases d4:(c2 == 1)=true
  ·rw[if_pos d4]
   exact sZ (HiQ.out sm (m3.first ha hb (beq_iff_eq.mp d4) h0))
  rw[if_neg d4]
  by_cases d6:(c2 == 0)=true
  ·rw[if_pos d6]
   exact sZ (HiQ.out sm (m3.lu ha (beq_iff_eq.mp d6)))
  rw[if_neg d6]
  exact j8 hb sm ea (m3.eR hx1 ea ha bl2) (ou (mq d6) d4) (tM hn1 (by rw[vv];exact vD _ _))
 ·rw[if_neg k2]
  have ec2:c2=y-1:=x3 hc2 (x4 (vH k2))
  rw[ec2] at bl2
  exact j8 hb sm ea (m2.eR hx1 ea ha bl2) hy1 hn1
theorem kf (C:Cmp prog w A s O key U κ){a b:Array sW}{st st':tK}(hκ:kindOf st=κ)(ua:∀p∈a.toList,U p)(ub:∀p∈b.toList,U p)
  (ha:a.toList.Pairwise (Le key)) (hb:b.toList.Pairwise (Le key)) (h0:∀p q,b[0]? = some p->q∈a.toList->Le key p q)
  {p:Array sW} {x y ac bc n:Nat} (mg:Nat) (sm:Sm st st') (m:MV key a b p x y) (hx:1<=x) (hy:2<=y) (hn:n<=p.size):wpS (tN prog w) A E s (lB a b x y p ac bc mg) (HiQ key a b st n) st':=by
 unfold lB
 have bx:=m.hx
 have by':=m.hy
 obtain ⟨zb,eb⟩:=aN (show y-1<b.size by omega)
 refine sR (ve ?_)
 refine sR (aL eb ?_)
 refine sR (qr C (λi=>(a[i]?).getD zb) ((sm.mg _).k.trans hκ) (ub _ (bh eb)) (λi hi =>?_) (λi hi =>?_) (λi j hij hj =>?_) (wG hx) λc hc h1 h2 =>?_)
 ·obtain ⟨z,e⟩:=aN (sT hi bx)
  rw[xi,e];rfl
 ·obtain ⟨z,e⟩:=aN (sT hi bx)
  rw[e];exact ua _ (bh e)
 ·obtain ⟨z,e⟩:=aN (show i<a.size by omega)
  obtain ⟨z',e'⟩:=aN (show j<a.size by omega)
  rw[e,e'];exact ay ha (ax e) (ax e') hij
 dsimp only at h1 h2 ⊢
 have ta:∀j q,c<=j->j<x->a.toList[j]? = some q->∀t∈b.toList.take y,Le key t q:=λj q hj hj2 e t ht=>by
  have z:=h2 j hj hj2
  rw[tq] at e
  rw[e] at z
  obtain ⟨n,hn,e2⟩:=aO ht
  exact tZ (ay hb e2 (ax eb) (vb hn)) (uC z)
 have mk:=m.mh hc ha ta
 have bl:∀t∈a.toList.take c,Le key t zb:=λt ht=>by
  obtain ⟨n,hn,e2⟩:=aO ht
  rw[tq] at e2
  have z:=h1 n hn
  rw[e2] at z
  exact z
 by_cases k0:x-c>0
 ·rw[if_pos k0]
  by_cases d1:(c == 0)=true
  ·rw[if_pos d1]
   exact sZ (HiQ.out (sm.mg _) (mk.lx hb (beq_iff_eq.mp d1)))
  rw[if_neg d1]
  exact j9 C hκ ua ub ha hb h0 (sm.mg _) eb mk bl (mq d1) hy (tM hn (by rw[vv];exact vD _ _))
 ·rw[if_neg k0]
  have ec:c=x:=x3 hc (x4 (vH k0))
  rw[ec] at bl
  exact j9 C hκ ua ub ha hb h0 (sm.mg _) eb m bl hx hy hn
theorem ow (C:Cmp prog w A s O key U κ){a b:Array sW}{st st':tK}(hκ:kindOf st=κ)(ua:∀p∈a.toList,U p)(ub:∀p∈b.toList,U p)
  (ha:a.toList.Pairwise (Le key)) (hb:b.toList.Pairwise (Le key)) (h0:∀p q,b[0]? = some p->q∈a.toList->Le key p q)
  {p:Array sW} {x y ac bc n mg:Nat} (sm:Sm st st') (m:MV key a b p x y) (hx:1<=x) (hy:2<=y) (hn:n<=p.size):wpS (tN prog w) A E s (if mg>1 then lB a b x y p ac bc (mg-1) else lB a b x y p ac bc mg) (HiQ key a b st n) st':=by
 split
 ·exact kf C hκ ua ub ha hb h0 (mg-1) sm m hx hy hn
 ·exact kf C hκ ua ub ha hb h0 mg sm m hx hy hn
abbrev HiD:=Option (Array sW)×Nat×Nat×Array sW×Nat×Nat
abbrev HiE:=Option (Array sW)×Nat×Nat×Array sW×Nat
def mv (a b:Array sW)(mg:Nat)(c:HiD):StateT tK Sem (ForInStep HiD):=do
  let u ← elem' b (c.2.2.1-1)
  let v ← elem' a (c.2.1-1)
  let __x ← lt' u v
  match __x with
  | some aw =>
    if aw=true then do
      let z ← elem' a (c.2.1-1)
      if (c.2.1-1 == 0)=true then pure (.done (some (a.extract 0 (c.2.1-1)++b.extract 0 c.2.2.1++(c.2.2.2.1.push z).reverse),c.2.1-1,c.2.2.1,c.2.2.2.1.push z,c.2.2.2.2.1+1,0))
      else if c.2.2.2.2.1+1≥mg then pure (.done (none,c.2.1-1,c.2.2.1,c.2.2.2.1.push z,c.2.2.2.2.1+1,0))
      else pure (.yield (none,c.2.1-1,c.2.2.1,c.2.2.2.1.push z,c.2.2.2.2.1+1,0))
    else do
      let z ← elem' b (c.2.2.1-1)
      if (c.2.2.1-1 == 1)=true then pure (.done (some (b.extract 0 (c.2.2.1-1)++a.extract 0 c.2.1++(c.2.2.2.1.push z).reverse),c.2.1,c.2.2.1-1,c.2.2.2.1.push z,0,c.2.2.2.2.2+1))
      else if c.2.2.2.2.2+1≥mg then pure (.done (none,c.2.1,c.2.2.1-1,c.2.2.2.1.push z,0,c.2.2.2.2.2+1))
      else pure (.yield (none,c.2.1,c.2.2.1-1,c.2.2.2.1.push z,0,c.2.2.2.2.2+1))
  | _=>pure (.done (some (a.extract 0 c.2.1++b.extract 0 c.2.2.1++c.2.2.2.1.reverse),c.2.1,c.2.2.1,c.2.2.2.1,c.2.2.2.2.1,c.2.2.2.2.2))
def qw (a b:Array sW)(c:HiC):StateT tK Sem (ForInStep HiC) :=
 if c.2.2.2.2.1>1 then lB a b c.2.1 c.2.2.1 c.2.2.2.1 c.2.2.2.2.2.1 c.2.2.2.2.2.2 (c.2.2.2.2.1-1) else lB a b c.2.1 c.2.2.1 c.2.2.2.1 c.2.2.2.2.2.1 c.2.2.2.2.2.2 c.2.2.2.2.1
def jz (a b:Array sW)(c:HiE):StateT tK Sem (ForInStep HiE):=do
  let d ← forIn [0:a.size+b.size] ((none,c.2.1,c.2.2.1,c.2.2.2.1,0,0):HiD) λ_ d=>mv a b c.2.2.2.2 d
  match d.1 with
  | some r=>pure (.done (some r,d.2.1,d.2.2.1,d.2.2.2.1,c.2.2.2.2))
  | none=>do
    rule "list.sort.gallop"
    let e ← forIn [0:a.size+b.size] ((none,d.2.1,d.2.2.1,d.2.2.2.1,c.2.2.2.2+1,d.2.2.2.2.1,d.2.2.2.2.2):HiC) λ_ e=>qw a b e
    match e.1 with
    | some r=>pure (.done (some r,e.2.1,e.2.2.1,e.2.2.2.1,e.2.2.2.2.1))
    | none=>do
      modify (λs=>SortSt.mk' (kindOf s) (tf s) (tJ s) (e.2.2.2.2.1+1) (failedOf s))
      pure (.yield (none,e.2.1,e.2.2.1,e.2.2.2.1,e.2.2.2.2.1+1))
theorem ox (a b:Array sW):mHi a b=(do
    rule "list.sort.merge-hi"
    let z ← elem' a (a.size-1)
    if (a.size-1 == 0)=true then pure (a.extract 0 (a.size-1)++b.extract 0 b.size++(#[z]:Array sW).reverse)
    else if (b.size == 1)=true then pure (b.extract 0 b.size++a.extract 0 (a.size-1)++(#[z]:Array sW).reverse)
    else do
      let g ← get
      let c ← forIn [0:a.size+b.size] ((none,a.size-1,b.size, #[z],gallopOf g):HiE) λ_ c=>jz a b c
      match c.1 with
      | some r=>pure r
      | none=>unsupported "internal:list.sort.merge-bound"):=by
  kernel_rfl
def HdI (key:sW->O.α)(a b:Array sW)(st:tK)(n:Nat)(c:HiD)(st':tK):Prop:=Sm st st'/\∃x y o' ac bc,c=(none,x,y,o',ac,bc)/\MV key a b o' x y/\1<=x/\2<=y/\n<=o'.size
def HdQ (key:sW->O.α)(a b:Array sW)(st:tK)(n:Nat)(c:HiD)(st':tK):Prop:=Sm st st'/\((∃r x y o ac bc,c=(some r,x,y,o,ac,bc)/\cq key a b r)\/∃x y o' ac bc,c=(none,x,y,o',ac,bc)/\MV key a b o' x y/\1<=x/\2<=y/\n<=o'.size)
theorem mw (C:Cmp prog w A s O key U κ){a b:Array sW}{st st':tK}(hκ:kindOf st=κ)(ua:∀p∈a.toList,U p)(ub:∀p∈b.toList,U p)
  (ha:a.toList.Pairwise (Le key)) (hb:b.toList.Pairwise (Le key)) (h0:∀p q,b[0]? = some p->q∈a.toList->Le key p q)
  {mg n m':Nat} {c:HiD} (I:HdI key a b st n c st') (hm:m'<=n+1) {Q:ForInStep HiD->tK->Prop} (h:∀r st',(match r with | .done c'=>HdQ key a b st (n+1) c' st' | .yield c'=>HdI key a b st m' c' st')->Q r st'):wpS (tN prog w) A E s (mv a b mg c) Q st':=by
 obtain ⟨sm2,x,y,o',ac,bc,rfl,m,hx,hy,hz⟩:=I
 unfold mv
 have bx:=m.hx
 have by':=m.hy
 obtain ⟨za,ea⟩:=aN (show x-1<a.size by omega)
 obtain ⟨zb,eb⟩:=aN (show y-1<b.size by omega)
 refine sR (aL eb (sR (aL ea (sR (C.lt _ st' zb za _ (sm2.k.trans hκ) (ub _ (bh eb)) (ua _ (bh ea)) ?_)))))
 dsimp only
 have sz:∀z,n+1<=(o'.push z).size:=λz=>by rw[vP];exact yT hz
 cases hlt:O.blt (key zb) (key za) with
 | true =>
  rw[if_pos rfl]
  refine sR (aL ea ?_)
  have m1:=m.eR hx ea ha λt ht=>by
   obtain ⟨n,hn,e⟩:=aO ht
   exact tZ (ay hb e (ax eb) (vb hn)) (uC hlt)
  by_cases c3:(x-1 == 0)=true
  ·rw[if_pos c3]
   exact sZ (h _ _ ⟨sm2,.inl ⟨_,_,_,_,_,_,rfl,m1.lx hb (beq_iff_eq.mp c3)⟩⟩)
  ·rw[if_neg c3]
   have c3':=mq c3
   split
   ·exact sZ (h _ _ ⟨sm2,.inr ⟨_,_,_,_,_,rfl,m1,c3',hy,sz _⟩⟩)
   ·exact sZ (h _ _ ⟨sm2,_,_,_,_,_,rfl,m1,c3',hy,tM hm (sz _)⟩)
 | false =>
  rw[if_neg tL]
  refine sR (aL eb ?_)
  have m1:=m.gv (yH hy) eb hb λt ht=>by
   obtain ⟨n,hn,e⟩:=aO ht
   exact tZ (ay ha e (ax ea) (vb hn)) (show O.kle (key za) (key zb) from hlt)
  by_cases c3:(y-1 == 1)=true
  ·rw[if_pos c3]
   exact sZ (h _ _ ⟨sm2,.inl ⟨_,_,_,_,_,_,rfl,m1.first ha hb (beq_iff_eq.mp c3) h0⟩⟩)
  ·rw[if_neg c3]
   have c3':=ou (vb hy) c3
   split
   ·exact sZ (h _ _ ⟨sm2,.inr ⟨_,_,_,_,_,rfl,m1,hx,c3',sz _⟩⟩)
   ·exact sZ (h _ _ ⟨sm2,_,_,_,_,_,rfl,m1,hx,c3',tM hm (sz _)⟩)
def HeI (key:sW->O.α)(a b:Array sW)(st:tK)(n:Nat)(c:HiE)(st':tK):Prop:=Sm st st'/\∃x y o mg,c=(none,x,y,o,mg)/\MV key a b o x y/\1<=x/\2<=y/\n+1<=o.size
def HeQ (key:sW->O.α)(a b:Array sW)(st:tK)(c:HiE)(st':tK):Prop:=Sm st st'/\((∃r x y o mg,c=(some r,x,y,o,mg)/\cq key a b r)\/∃x y o mg,c=(none,x,y,o,mg)/\MV key a b o x y/\1<=x/\2<=y/\a.size+b.size+1<=o.size)
theorem lC (C:Cmp prog w A s O key U κ){a b:Array sW}{st st':tK}(hκ:kindOf st=κ)(ua:∀p∈a.toList,U p)(ub:∀p∈b.toList,U p)
  (ha:a.toList.Pairwise (Le key)) (hb:b.toList.Pairwise (Le key)) (h0:∀p q,b[0]? = some p->q∈a.toList->Le key p q) (na:0<a.size)
  {n:Nat} {c:HiE} (I:HeI key a b st n c st'):wpS (tN prog w) A E s (jz a b c) (λr st'=>match r with | .done c'=>HeQ key a b st c' st' | .yield c'=>HeI key a b st (n+1) c' st') st':=by
 obtain ⟨sm1,x,y,o,mg,rfl,m,hx,hy,hz⟩:=I
 unfold jz
 have q1:1<=a.size+b.size:=tM na (vD _ _)
 refine sR (uZ (uu (I:=λj c st'=>HdI key a b st (o.size+min j 1) c st') (Q:=HdQ key a b st (o.size+1)) (λj c st2 _ hj J=>mw (n:=o.size+min j 1) (m':=o.size+min (j+1) 1) C hκ ua ub ha hb h0 J (by omega) λr st' k =>?_) (λc st' J =>?_) ⟨sm1,x,y,o,0,0,rfl,m,hx,hy,sS _⟩) ?_)
 ·cases r with
  | done c'=>exact k.imp id λz=>z.imp id λ⟨x,y,o',ac,bc,e,m,hx,hy,hz⟩=>⟨x,y,o',ac,bc,e,m,hx,hy,by omega⟩
  | yield c'=>exact k
 ·obtain ⟨sm,x,y,o',ac,bc,e,m,hx,hy,hz⟩:=J
  exact ⟨sm,.inr ⟨x,y,o',ac,bc,e,m,hx,hy,by omega⟩⟩
 rintro c st2 ⟨sm2,⟨r,x,y,o',ac,bc,rfl,fr⟩ | ⟨x,y,o',ac,bc,rfl,m,hx,hy,hz2⟩⟩
 ·exact sZ ⟨sm2,.inl ⟨_,_,_,_,_,rfl,fr⟩⟩
 dsimp only
 refine sR (xK (wu ⟨rfl,?_⟩))
 refine sR (uZ (uu (I:=λ_ c st'=>HiQ key a b st o'.size (.yield c) st') (Q:=λc st'=>HiQ key a b st o'.size (.done c) st') (λj c st3 _ hj J =>?_) (λc st' J=>⟨J.1,.inr J.2⟩) ⟨sm2,x,y,o',_,ac,bc,rfl,m,hx,hy,sS _⟩) ?_)
 ·obtain ⟨sm3,x,y,p,mg,ac,bc,rfl,m,hx,hy,hz3⟩:=J
  refine uZ (ow C hκ ua ub ha hb h0 sm3 m hx hy hz3) ?_
  intro r st' h
  cases r <;> exact h
 rintro c st3 ⟨sm3,⟨r,x,y,p,mg,ac,bc,rfl,fr⟩ | ⟨x,y,p,mg,ac,bc,rfl,m,hx,hy,hz3⟩⟩
 ·exact sZ ⟨sm3,.inl ⟨_,_,_,_,_,rfl,fr⟩⟩
 ·dsimp only
  exact sR (ve (sZ ⟨sm3.mg _,x,y,p,_,rfl,m,hx,hy,by omega⟩))
theorem qx (C:Cmp prog w A s O key U κ){a b:Array sW}{st:tK}{Q:Array sW->tK->Prop}(hκ:kindOf st=κ)(ua:∀p∈a.toList,U p)(ub:∀p∈b.toList,U p)
  (ha:a.toList.Pairwise (Le key)) (hb:b.toList.Pairwise (Le key)) (na:0<a.size) (nb:0<b.size) (h0:∀p q,b[0]? = some p->q∈a.toList->Le key p q) (hl:∀p q,p∈b.toList->a[a.size-1]? = some q->Le key p q)
  (h:∀r st',Sm st st'->cq key a b r->Q r st'):wpS (tN prog w) A E s (mHi a b) Q st:=by
 rw[ox]
 refine sR (xK (wu ⟨rfl,?_⟩))
 obtain ⟨a0,ea0⟩:=aN (wG na)
 have m0:MV key a b #[] a.size b.size:=by
  refine ⟨sS _,sS _,?_,List.Pairwise.nil,λp _ q hq=>by cases hq⟩
  rw[uV (by rw[sU];exact sS _),uV (by rw[sU];exact sS _)]
  show (a.toList++b.toList++[]).Perm _
  rw[uA]
 have m1:MV key a b #[a0] (a.size-1) b.size:=m0.eR na ea0 ha λt ht=>hl t a0 (va ht) ea0
 refine sR (aL ea0 ?_)
 by_cases c1:(a.size-1 == 0)=true
 ·rw[if_pos c1]
  exact sZ (h _ st (Sm.refl st) (m1.lx hb (beq_iff_eq.mp c1)))
 rw[if_neg c1]
 by_cases c2:(b.size == 1)=true
 ·rw[if_pos c2]
  exact sZ (h _ st (Sm.refl st) (m1.first ha hb (beq_iff_eq.mp c2) h0))
 rw[if_neg c2]
 refine sR (xv ?_)
 refine sR (uZ (uu (I:=λi c st'=>HeI key a b st i c st') (Q:=HeQ key a b st) (λi c st1 _ _ J=>uZ (lC C hκ ua ub ha hb h0 na J) λr st' h=>by cases r <;> exact h) (λc st' J =>?_) ⟨Sm.refl st,_,_,_,_,rfl,m1,mq c1,ou nb c2,sS _⟩) ?_)
 ·obtain ⟨sm,x,y,o,mg,e,m,hx,hy,hz⟩:=J
  exact ⟨sm,.inr ⟨x,y,o,mg,e,m,hx,hy,by omega⟩⟩
 rintro c st' ⟨sm,⟨r,x,y,o,mg,rfl,fr⟩ | ⟨x,y,o,mg,rfl,m,hx,hy,hz⟩⟩
 ·exact sZ (h r st' sm fr)
 ·have:=m.size
  omega
end
open PySem PyProof.Rows
theorem qy (i:Nat):mAt i=(do
    let s ← get
    let (some (sa,na,pw),some (sb,nb,_)):=((tJ s)[i]?,(tJ s)[i+1]?) | unsupported "internal:list.sort.pending"
    set (SortSt.mk' (kindOf s) (tf s) (((tJ s).setIfInBounds i (sa,na+nb,pw)).eraseIdxIfInBounds (i+1)) (gallopOf s) (failedOf s))
    let some k ← gal false (← elem' (tf s) sb) (tf s) sa na 0 | return false
    let (sa,na):=(sa+k,na-k)
    if na == 0 then return true
    let some nb ← gal true (← elem' (tf s) (sa+na-1)) (tf s) sb nb (nb-1) | return false
    if nb == 0 then return true
    let x:=(tf s).extract sa sb
    let y:=(tf s).extract sb (sb+nb)
    let mm ← if na<=nb then mLo x y else mHi x y
    modify λs=>setArr s (mm.toList.zipIdx.foldl (λa (p,j)=>a.setIfInBounds (sa+j) p) (tf s))
    return (failedOf (← get)).isNone):=rfl
theorem dJ {α:Type}(p r:List α)(k:Nat):(p++r).drop (p.length+k)=r.drop k:=by
 rw[<- zh,xu]
theorem jA {α:Type}(p r:List α)(k:Nat):(p++r)[p.length+k]? = r[k]? := by
 rw[vU (by omega),vA]
theorem pD {α:Type}(p a r:List α){k:Nat}(h:k<a.length):(p++(a++r))[p.length+k]? = a[k]? := by
 rw[jA,vX h]
theorem written (l:List sW):∀(c n:Nat) (a:Array sW),c+n+l.length<=a.size->((l.zipIdx n).foldl (λ(a:Array sW) (pj:sW×Nat)=>a.setIfInBounds (c+pj.2) pj.1) a).toList=a.toList.take (c+n)++l++a.toList.drop (c+n+l.length):=by
 induction l with
 | nil=>intro c n a _;simp
 | cons z l ih =>
  intro c n a h
  rw[tY] at h
  rw[List.zipIdx_cons,yX,ih c (n+1) _ (by rw[Array.size_setIfInBounds];omega)]
  have e:(a.setIfInBounds (c+n) z).toList=a.toList.set (c+n) z:=w6 ..
  rw[e]
  have lt:c+n<a.toList.length:=by rw[sU];omega
  have t1:(a.toList.set (c+n) z).take (c+(n+1))=a.toList.take (c+n)++[z]:=by
   rw[show c+(n+1)=c+n+1 by omega,xA,List.take_set_of_le (sS _),vG lt]
   rfl
  have t2:(a.toList.set (c+n) z).drop (c+(n+1)+l.length)=a.toList.drop (c+n+(l.length+1)):=by
   rw[List.drop_set_of_lt (by omega),show c+(n+1)+l.length=c+n+(l.length+1) by omega]
  rw[t1,t2,tY]
  simp
section
variable  {prog:tj}{w:ud}{A:ue}{E:sJ->sL->Prop}{s:sL}{O:wX}{key:sW->O.α}{U:sW->Prop}{κ:SortKind}
theorem qz (C:Cmp prog w A s O key U κ){i pw pw2:Nat}{st:tK}{Q:Bool->tK->Prop}{P X Y S:List sW}(hκ:kindOf st=κ)(hf:failedOf st=none)
    (ha:(tf st).toList=P++(X++(Y++S))) (hu:∀p∈(tf st).toList,U p) (h1:(tJ st)[i]? = some (P.length,X.length,pw)) (h2:(tJ st)[i+1]? = some (P.length+X.length,Y.length,pw2))
    (nx:0<X.length) (ny:0<Y.length) (sx:X.Pairwise (Le key)) (sy:Y.Pairwise (Le key))
    (h:∀st' M,M.Perm (X++Y)->M.Pairwise (Le key)->(tf st').toList=P++(M++S)->tJ st'=((tJ st).setIfInBounds i (P.length,X.length+Y.length,pw)).eraseIdxIfInBounds (i+1)->kindOf st'=κ -> failedOf st'=none->Q true st') :
    wpS (tN prog w) A E s (mAt i) Q st:=by
  rw[qy]
  refine sR (xv ?_)
  rw[h1,h2]
  dsimp only
  refine sR (show wpS (tN prog w) A E s (modify λ_=>SortSt.mk' (kindOf st) (tf st) (((tJ st).setIfInBounds i (P.length,X.length+Y.length,pw)).eraseIdxIfInBounds (i+1)) (gallopOf st) (failedOf st)) _ st from ve ?_)
  generalize hst1:SortSt.mk' (kindOf st) (tf st) (((tJ st).setIfInBounds i (P.length,X.length+Y.length,pw)).eraseIdxIfInBounds (i+1)) (gallopOf st) (failedOf st)=st1
  have k1:kindOf st1=κ:=by rw[<- hst1];exact hκ
  have a1:tf st1=tf st:=by rw[<- hst1]
  have p1:tJ st1=((tJ st).setIfInBounds i (P.length,X.length+Y.length,pw)).eraseIdxIfInBounds (i+1):=by rw[<- hst1]
  have f1:failedOf st1=none:=by rw[<- hst1];exact hf
  have sz:(tf st).size=P.length+X.length+Y.length+S.length:=by
    rw[<- sU,ha];simp only[tw];omega
  have atX:∀j,j<X.length->(tf st)[P.length+j]? = X[j]? := λj hj=>by
    rw[<- tq,ha,pD _ _ _ hj]
  have atY:∀j,j<Y.length->(tf st)[P.length+X.length+j]? = Y[j]? := λj hj=>by
    rw[<- tq,ha, <- t8,show P.length+X.length+j=(P++X).length+j by rw[tw],pD _ _ _ hj]
  have uX:∀p∈X,U p:=λp hp=>hu p (by rw[ha];simp[hp])
  have uY:∀p∈Y,U p:=λp hp=>hu p (by rw[ha];simp[hp])
  have xget:∀j,j<X.length->∃z,X[j]? = some z:=λj hj=>⟨X[j],by simp[hj]⟩
  have yget:∀j,j<Y.length->∃z,Y[j]? = some z:=λj hj=>⟨Y[j],by simp[hj]⟩
  obtain ⟨y0,ey0⟩:=yget 0 ny
  have plain:(∀p∈X,∀q∈Y,Le key p q)->Q true st1:=λhle=>h st1 (X++Y) (xr _) (uD.mpr ⟨sx,sy,hle⟩) (by rw[a1,ha,t8]) p1 k1 f1
  refine sR (aL (z:=y0) (by rw[show P.length+X.length=P.length+X.length+0 by omega,atY 0 ny];exact ey0) ?_)
  refine sR (qr C (λj=>(X[j]?).getD y0) k1 (uY _ (tD ey0)) (λj hj =>?_) (λj hj =>?_) (λi j hij hj =>?_) nx λk hk g1 g2 =>?_)
  · obtain ⟨z,e⟩:=xget j hj
    rw[atX j hj,e];rfl
  · obtain ⟨z,e⟩:=xget j hj
    rw[e];exact uX _ (tD e)
  · obtain ⟨z,e⟩:=xget i (by omega)
    obtain ⟨z',e'⟩:=xget j hj
    rw[e,e'];exact ay sx e e' hij
  dsimp only at g1 g2 ⊢
  have y0le:∀q∈Y,Le key y0 q:=λq hq=>by
    obtain ⟨n,e⟩:=uc.mp hq
    exact ay sy ey0 e (uz _)
  by_cases c1:(X.length-k == 0)=true
  · rw[if_pos c1]
    refine sZ (plain λp hp q hq =>?_)
    obtain ⟨n,e⟩:=uc.mp hp
    have hn:n<X.length:=(sQ.mp e).1
    have z:=g1 n (by have:=beq_iff_eq.mp c1;omega)
    rw[e] at z
    exact tZ z (y0le q hq)
  rw[if_neg c1]
  have kx:k<X.length:=by have:X.length-k≠0:=λz=>c1 (beq_iff_eq.mpr z);omega
  obtain ⟨xl,exl⟩:=xget (X.length-1) (by omega)
  have xlle:∀p∈X,Le key p xl:=λp hp=>by
    obtain ⟨n,e⟩:=uc.mp hp
    have hn:n<X.length:=(sQ.mp e).1
    exact ay sx e exl (by omega)
  refine sR (aL (z:=xl) (by rw[show P.length+k+(X.length-k)-1=P.length+(X.length-1) by omega,atX _ (by omega)];exact exl) ?_)
  refine sR (qt C (λj=>(Y[j]?).getD xl) k1 (uX _ (tD exl)) (λj hj =>?_) (λj hj =>?_) (λi j hij hj =>?_) (by omega) λm hm e1 e2 =>?_)
  · obtain ⟨z,e⟩:=yget j hj
    rw[atY j hj,e];rfl
  · obtain ⟨z,e⟩:=yget j hj
    rw[e];exact uY _ (tD e)
  · obtain ⟨z,e⟩:=yget i (by omega)
    obtain ⟨z',e'⟩:=yget j hj
    rw[e,e'];exact ay sy e e' hij
  dsimp only at e1 e2 ⊢
  by_cases c2:(m == 0)=true
  · rw[if_pos c2]
    refine sZ (plain λp hp q hq =>?_)
    obtain ⟨n,e⟩:=uc.mp hq
    have hn:n<Y.length:=(sQ.mp e).1
    have z:=e2 n (by have:=beq_iff_eq.mp c2;omega) hn
    rw[e] at z
    exact tZ (xlle p hp) z
  rw[if_neg c2]
  have m0:0<m:=by have:m≠0:=λz=>c2 (beq_iff_eq.mpr z);omega
  have ex:((tf st).extract (P.length+k) (P.length+X.length)).toList=X.drop k:=by
    rw[uJ,uj,ha,dJ,wA (by omega)]
    rw[List.take_left' (by rw[uL];omega)]
  have ey:((tf st).extract (P.length+X.length) (P.length+X.length+m)).toList=Y.take m:=by
    have e:=dJ (P++X) (Y++S) 0
    rw[tw,Nat.add_zero,zj,t8] at e
    rw[uJ,uj,ha,e,vA,vE hm]
  have sX:((tf st).extract (P.length+k) (P.length+X.length)).size=X.length-k:=by rw[<- sU,ex,uL]
  have sY:((tf st).extract (P.length+X.length) (P.length+X.length+m)).size=m:=by rw[<- sU,ey,uH];omega
  generalize (tf st).extract (P.length+k) (P.length+X.length)=xa at ex sX ⊢
  generalize (tf st).extract (P.length+X.length) (P.length+X.length+m)=ya at ey sY ⊢
  have xa0:∀q∈xa.toList,Le key y0 q:=λq hq=>by
    rw[ex] at hq
    obtain ⟨n,hn,e⟩:=aK hq
    have hn2:n<X.length:=(sQ.mp e).1
    have z:=g2 n hn hn2
    rw[e] at z
    exact uC z
  have yaL:∀p∈ya.toList,Le key p xl:=λp hp=>by
    rw[ey] at hp
    obtain ⟨n,hn,e⟩:=aO hp
    have z:=e1 n hn
    rw[e] at z
    exact uC z
  have first:∀p q,ya[0]? = some p->q∈xa.toList->Le key p q:=λp q hp hq=>by
    rw[<- tq,ey,u6,if_pos m0,ey0] at hp
    cases hp
    exact xa0 q hq
  have lst:∀p q,p∈ya.toList->xa[xa.size-1]? = some q->Le key p q:=λp q hp hq=>by
    rw[<- tq,ex,wc,sX,show k+(X.length-k-1)=X.length-1 by omega,exl] at hq
    cases hq
    exact yaL p hp
  have sxa:xa.toList.Pairwise (Le key):=by rw[ex];exact sx.sublist (uq _ _)
  have sya:ya.toList.Pairwise (Le key):=by rw[ey];exact sy.sublist (uB _ _)
  have uxa:∀p∈xa.toList,U p:=λp hp=>by rw[ex] at hp;exact uX p (u9 hp)
  have uya:∀p∈ya.toList,U p:=λp hp=>by rw[ey] at hp;exact uY p (va hp)
  have post:∀r st',Sm st1 st'->cq key xa ya r->wpS (tN prog w) A E s (do modify λs=>setArr s (r.toList.zipIdx.foldl (λa (p,j)=>a.setIfInBounds (P.length+k+j) p) (tf s));return (failedOf (← get)).isNone) Q st':=by
    rintro r st' sm ⟨fp,fs⟩
    refine sR (ve (sR (xv (sZ ?_))))
    have rl:r.toList.length=X.length-k+m:=by rw[fp.length_eq,tw,sU,sU,sX,sY]
    have wr:=written r.toList (P.length+k) 0 (tf st') (by rw[sm.a,a1,sz,rl];omega)
    have e:(failedOf (setArr st' (r.toList.zipIdx.foldl (λa (p,j)=>a.setIfInBounds (P.length+k+j) p) (tf st')))).isNone=true:=by
      show (failedOf st').isNone=true
      rw[sm.f,f1];rfl
    rw[e]
    have t1:(P++(X++(Y++S))).take (P.length+k+0)=P++X.take k:=by
      rw[Nat.add_zero,List.take_append,uV (by omega),vA,vE (by omega)]
    have t2:(P++(X++(Y++S))).drop (P.length+k+0+r.toList.length)=Y.drop m++S:=by
      rw[rl,show P.length+k+0+(X.length-k+m)=P.length+(X.length+m) by omega,dJ,dJ,wA hm]
    have perm:(X.take k++(r.toList++Y.drop m)).Perm (X++Y):=by
      rw[ex,ey] at fp
      have q:(X.take k++(r.toList++Y.drop m)).Perm (X.take k++((X.drop k++Y.take m)++Y.drop m)):=u5 _ (vk _ fp)
      have e3:X.take k++((X.drop k++Y.take m)++Y.drop m)=X++Y:=by
        rw[t8 (X.drop k),vp, <- t8,vp]
      rw[e3] at q
      exact q
    have inr:∀z∈r.toList,z∈X.drop k\/z∈Y.take m:=λz hz=>by
      have q:=fp.mem_iff.mp hz
      rw[ex,ey] at q
      exact tO.mp q
    refine h _ (X.take k++(r.toList++Y.drop m)) perm ?_ ?_ ?_ (sm.k.trans k1) (sm.f.trans f1)
    · refine uD.mpr ⟨sx.sublist (uB _ _),uD.mpr ⟨fs,sy.sublist (uq _ _),λp hp q hq =>?_⟩,λp hp q hq =>?_⟩
      · obtain ⟨n,hn,en⟩:=aK hq
        have hn2:n<Y.length:=(sQ.mp en).1
        rcases inr p hp with z | z
        · have g:=e2 n hn hn2
          rw[en] at g
          exact tZ (xlle p (u9 z)) g
        · obtain ⟨j,hj,ej⟩:=aO z
          exact ay sy ej en (by omega)
      · obtain ⟨n,hn,en⟩:=aO hp
        have g:=g1 n hn
        rw[en] at g
        rcases tO.mp hq with z | z
        · rcases inr q z with z | z
          · obtain ⟨j,hj,ej⟩:=aK z
            exact ay sx en ej (by omega)
          · exact tZ g (y0le q (va z))
        · exact tZ g (y0le q (u9 z))
    · show (r.toList.zipIdx.foldl (λa (p,j)=>a.setIfInBounds (P.length+k+j) p) (tf st')).toList=_
      rw[wr,sm.a,a1,ha,t1,t2]
      simp only[t8]
    · show tJ st'=_
      rw[sm.p,p1]
  by_cases c3:X.length-k<=m
  · rw[if_pos c3]
    exact sR (qv C k1 uxa uya sxa sya (by omega) (by omega) (λp q hp hq=>first p q hp (bh hq)) lst λr st' sm fr=>post r st' sm fr)
  · rw[if_neg c3]
    exact sR (qx C k1 uxa uya sxa sya (by omega) (by omega) first lst λr st' sm fr=>post r st' sm fr)
end
open PySem PyProof.Rows
theorem oy (lo m:Nat):qo lo m=(do
    let mut n:=1
    for _ in [1:m] do
      let some sm ← ltAt' (lo+n) (lo+n-1)
        | return none
      if sm then break
      n:=n+1
    if n == m then return some n
    if n>1 then
      let some ro ← ltAt' lo (lo+n-1)
        | return none
      if ro then return some n
      reverseSlice' lo (lo+n)
    rule "list.sort.descending-run"
    n:=n+1
    let mut q:=0
    for _ in [n:m] do
      let some sm ← ltAt' (lo+n) (lo+n-1)
        | return none
      if sm then
        if q>0 then reverseSlice' (lo+n-(q+1)) (lo+n)
        q:=0
      else
        let some lg ← ltAt' (lo+n-1) (lo+n)
          | return none
        if lg then break
        q:=q+1
      n:=n+1
    if q>0 then reverseSlice' (lo+n-(q+1)) (lo+n)
    reverseSlice' lo (lo+n)
    for _ in [n:m] do
      let some sm ← ltAt' (lo+n) (lo+n-1)
        | return none
      if sm then break
      n:=n+1
    return some n):=rfl
theorem my (lo n ok:Nat):me lo n ok=(do
    for k in [max ok 1:n] do
      let mut l:=0;let mut r:=k
      for _ in [0:k] do
        if l≥r then break
        let m:=(l+r)/2
        let some le ← ltAt' (lo+k) (lo+m)
          | return false
        if le then r:=m else l:=m+1
      moveDown' (lo+k) (lo+l)
    return true):=rfl
section
variable  {O:wX}(key:sW->O.α)
def kk (xs:Array sW)(i:Nat):O.α:=key ((xs[i]?).getD (vx,vx))
def Up (xs:Array sW)(lo n:Nat):Prop:=∀i j,lo<=i->i<=j->j<lo+n->O.kle (kk key xs i) (kk key xs j)
def Down (xs:Array sW)(lo n:Nat):Prop:=∀i j,lo<=i->i<=j->j<lo+n->O.kle (kk key xs j) (kk key xs i)
variable  {key}
theorem dM {xs ys:Array sW}{i j:Nat}(h:xs[i]? = ys[j]?):kk key xs i=kk key ys j:=by unfold kk;rw[h]
theorem gx {xs:Array sW}{i j:Nat}(hj:j<=xs.size)(k:Nat):kk key (mirror xs i j ((j-i)/2)) k=if i<=k/\k<j then kk key xs (i+j-1-k) else kk key xs k:=by
 have e:=yo (i:=i) hj k
 by_cases h:i<=k/\k<j
 ·rw[if_pos h] at e ⊢;exact dM e
 ·rw[if_neg h] at e ⊢;exact dM e
theorem cC {xs:Array sW}{i j:Nat}(hj:j<=xs.size)(he:∀k,i<=k->k<j->kk key xs k=kk key xs (j-1))(k:Nat):kk key (mirror xs i j ((j-i)/2)) k=kk key xs k:=by
 rw[gx hj]
 split
 ·rw[he _ (by omega) (by omega),he k (by omega) (by omega)]
 ·rfl
end
structure SA (lo:Nat)(st st':tK):Prop where
 perm:(tf st').Perm (tf st)
 pre:∀k,k<lo->(tf st')[k]? = (tf st)[k]?
 k:kindOf st'=kindOf st
 p:tJ st'=tJ st
 f:failedOf st'=failedOf st
theorem SA.refl (lo:Nat)(st:tK):SA lo st st:=⟨Array.Perm.refl _,λ_ _=>rfl,rfl,rfl,rfl⟩
theorem SA.size {lo:Nat}{st st':tK}(h:SA lo st st'):(tf st').size=(tf st).size:=h.perm.size_eq
theorem SA.mirror {lo:Nat}{st st':tK}(h:SA lo st st'){i j:Nat}(hi:lo<=i)(hj:j<=(tf st').size):SA lo st (setArr st' (mirror (tf st') i j ((j-i)/2))) :=
 ⟨(mirror_perm _ _ _ _).trans h.perm,λk hk=>by
  show (PyProof.Rows.mirror (tf st') i j ((j-i)/2))[k]? = _
  rw[yo hj,if_neg (by omega)]
  exact h.pre k hk,h.k,h.p,h.f⟩
theorem SA.mem {lo:Nat}{st st':tK}(h:SA lo st st'){p:sW}(hp:p∈(tf st').toList):p∈(tf st).toList:=(w9.mp h.perm).mem_iff.mp hp
section
variable  {prog:tj}{w:ud}{A:ue}{E:sJ->sL->Prop}{s:sL}{O:wX}{key:sW->O.α}{U:sW->Prop}{κ:SortKind}
theorem df (C:Cmp prog w A s O key U κ){st:tK}{i j:Nat}{Q:Option Bool->tK->Prop}(hκ:kindOf st=κ)(hu:∀p∈(tf st).toList,U p)(hi:i<(tf st).size)(hj:j<(tf st).size)
  (h:Q (some (O.blt (kk key (tf st) i) (kk key (tf st) j))) st):wpS (tN prog w) A E s (ltAt' i j) Q st:=by
 rw[ltAt'_eq]
 refine sR (xv ?_)
 obtain ⟨x,ex⟩:=aN hi
 obtain ⟨y,ey⟩:=aN hj
 dsimp only
 refine sR (aL ex (sR (aL ey (C.lt _ st x y _ hκ (hu _ (bh ex)) (hu _ (bh ey)) ?_))))
 unfold kk at h
 rw[ex,ey] at h
 exact h
theorem oz (C:Cmp prog w A s O key U κ){st:tK}{lo m:Nat}{Q:Option Nat->tK->Prop}(hκ:kindOf st=κ)(hu:∀p∈(tf st).toList,U p)(hm:1<=m)(hz:lo+m=(tf st).size)
  (h:∀n st',1<=n->n<=m->SA lo st st'->Up key (tf st') lo n->Q (some n) st'):wpS (tN prog w) A E s (qo lo m) Q st:=by
 rw[oy]
 dsimp only
 refine sR (uZ (uu (I:=λx c st'=>st=st'/\c=(none,x)/\Up key (tf st) lo x)
  (Q:=λc st'=>st=st'/\∃n,c=(none,n)/\1<=n/\n<=m/\Up key (tf st) lo n/\(n<m->O.klt (kk key (tf st) (lo+n)) (kk key (tf st) (lo+n-1)))) ?step ?fin ⟨rfl,rfl,λi j h1 h2 h3=>by rw[show i=j by omega];exact uP _⟩) ?post)
 case fin =>
  rintro c st' ⟨rfl,rfl,up⟩
  exact ⟨rfl,_,rfl,by omega,by omega,by rw[show max 1 m=m by omega] at up ⊢;exact up,by omega⟩
 case step =>
  rintro x c st' h1 h2 ⟨rfl,rfl,up⟩
  dsimp only
  refine sR (df C hκ hu (by omega) (by omega) ?_)
  dsimp only
  cases hb:O.blt (kk key (tf st) (lo+x)) (kk key (tf st) (lo+x-1)) with
  | true =>
   rw[if_pos rfl]
   exact sZ ⟨rfl,x,rfl,h1,by omega,up,λ_=>hb⟩
  | false =>
   rw[if_neg (by simp)]
   refine sZ ⟨rfl,rfl,λi j k1 k2 k3 =>?_⟩
   by_cases hj:j=lo+x
   ·by_cases hi:i=j
    ·rw[hi];exact uP _
    ·rw[hj]
     exact tZ (up i (lo+x-1) k1 (by omega) (by omega)) hb
   ·exact up i j k1 k2 (by omega)
 case post =>
  rintro c st' ⟨rfl,n,rfl,n1,n2,up,br⟩
  dsimp only
  by_cases c1:(n == m)=true
  ·rw[if_pos c1]
   exact sZ (h n st n1 n2 (SA.refl _ _) up)
  rw[if_neg c1]
  have nm:n<m:=by have:n≠m:=λz=>c1 (beq_iff_eq.mpr z);omega
  have br:=br nm
  by_cases c2:n>1
  case' pos =>
   rw[if_pos c2]
   refine sR (df C hκ hu (by omega) (by omega) ?_)
   dsimp only
   cases hro:O.blt (kk key (tf st) lo) (kk key (tf st) (lo+n-1))
   case' true =>
    rw[if_pos rfl]
    exact sZ (h n st n1 n2 (SA.refl _ _) up)
   rw[if_neg (by simp)]
   have eqs:∀k,lo<=k->k<lo+n->kk key (tf st) k=kk key (tf st) (lo+n-1):=λk k1 k2 =>
    yn (up k (lo+n-1) k1 (by omega) (by omega)) (tZ (show O.kle (kk key (tf st) (lo+n-1)) (kk key (tf st) lo) from hro) (up lo k (sS _) k1 k2))
   rw[wC]
   refine sR (ve ?_)
   have sa:=(SA.refl lo st).mirror (i:=lo) (j:=lo+n) (sS _) (by omega)
   have ke:=cC (key:=key) (xs:=tf st) (i:=lo) (j:=lo+n) (by omega) eqs
   have ka:∀k,kk key (tf (setArr st (mirror (tf st) lo (lo+n) ((lo+n-lo)/2)))) k=kk key (tf st) k:=ke
   generalize setArr st (mirror (tf st) lo (lo+n) ((lo+n-lo)/2))=st1 at sa ka ⊢
   clear ke
  case' neg =>
   rw[if_neg c2]
   have eqs:∀k,lo<=k->k<lo+n->kk key (tf st) k=kk key (tf st) (lo+n-1):=λk k1 k2=>by rw[show k=lo+n-1 by omega]
   obtain ⟨st1,e1⟩:∃st1,st1=st:=⟨_,rfl⟩
   have sa:SA lo st st1:=by rw[e1];exact SA.refl _ _
   have ka:∀k,kk key (tf st1) k=kk key (tf st) k:=λk=>by rw[e1]
   rw[<- e1]
   clear e1
  all_goals
   refine sR (xK (wu ⟨rfl,?_⟩))
   have dn:Down key (tf st1) lo (n+1):=λi j k1 k2 k3=>by
    rw[ka,ka]
    by_cases hj:j=lo+n
    ·by_cases hi:i=j
     ·rw[hi];exact uP _
     ·rw[hj,eqs i k1 (by omega)]
      exact uC br
    ·rw[eqs i k1 (by omega),eqs j (by omega) (by omega)]
     exact uP _
   clear eqs up br ka
   refine sR (uZ (uu (I:=λx c st'=>∃q,c=(none,x,q)/\x<=m/\SA lo st st'/\Down key (tf st') lo x/\q+1<=x/\∀k,lo+x-(q+1)<=k->k<lo+x->kk key (tf st') k=kk key (tf st') (lo+x-1))
    (Q:=λc st'=>∃x q,c=(none,x,q)/\1<=x/\x<=m/\SA lo st st'/\Down key (tf st') lo x/\q+1<=x/\∀k,lo+x-(q+1)<=k->k<lo+x->kk key (tf st') k=kk key (tf st') (lo+x-1)) ?step ?fin
    ⟨0,rfl,by omega,sa,dn,by omega,λk k1 k2=>by rw[show k=lo+(n+1)-1 by omega]⟩) ?post)
   case fin =>
    rintro c st' ⟨q,rfl,xm,sa,dn,hq,he⟩
    exact ⟨_,q,rfl,by omega,xm,sa,dn,hq,he⟩
   case step =>
    rintro x c st2 h1 h2 ⟨q,rfl,xm,sa2,dn2,hq,he⟩
    dsimp only
    have sz:=sa2.size
    have u2:∀p∈(tf st2).toList,U p:=λp hp=>hu p (sa2.mem hp)
    refine sR (df C (sa2.k.trans hκ) u2 (by omega) (by omega) ?_)
    dsimp only
    cases hb:O.blt (kk key (tf st2) (lo+x)) (kk key (tf st2) (lo+x-1)) with
    | true =>
     rw[if_pos rfl]
     have dn3:Down key (tf st2) lo (x+1):=λi j k1 k2 k3=>by
      by_cases hj:j=lo+x
      ·by_cases hi:i=j
       ·rw[hi];exact uP _
       ·rw[hj];exact tZ (uC hb) (dn2 i (lo+x-1) k1 (by omega) (by omega))
      ·exact dn2 i j k1 k2 (by omega)
     by_cases q0:q>0
     ·rw[if_pos q0,wC]
      refine sR (ve (sZ ?_))
      have ke:=cC (key:=key) (xs:=tf st2) (i:=lo+x-(q+1)) (j:=lo+x) (by omega) he
      refine ⟨0,rfl,by omega,sa2.mirror (by omega) (by omega),λi j k1 k2 k3 =>?_,by omega,λk k1 k2=>by rw[show k=lo+(x+1)-1 by omega]⟩
      show O.kle (kk key (mirror (tf st2) (lo+x-(q+1)) (lo+x) ((lo+x-(lo+x-(q+1)))/2)) j) (kk key (mirror (tf st2) (lo+x-(q+1)) (lo+x) ((lo+x-(lo+x-(q+1)))/2)) i)
      rw[ke,ke]
      exact dn3 i j k1 k2 k3
     ·rw[if_neg q0]
      exact sZ ⟨0,rfl,by omega,sa2,dn3,by omega,λk k1 k2=>by rw[show k=lo+(x+1)-1 by omega]⟩
    | false =>
     rw[if_neg (by simp)]
     refine sR (df C (sa2.k.trans hκ) u2 (by omega) (by omega) ?_)
     dsimp only
     cases hb2:O.blt (kk key (tf st2) (lo+x-1)) (kk key (tf st2) (lo+x)) with
     | true =>
      rw[if_pos rfl]
      exact sZ ⟨x,q,rfl,by omega,xm,sa2,dn2,hq,he⟩
     | false =>
      rw[if_neg (by simp)]
      have eq:=yn (show O.kle (kk key (tf st2) (lo+x)) (kk key (tf st2) (lo+x-1)) from hb2) hb
      refine sZ ⟨q+1,rfl,by omega,sa2,λi j k1 k2 k3 =>?_,by omega,λk k1 k2 =>?_⟩
      ·by_cases hj:j=lo+x
       ·by_cases hi:i=j
        ·rw[hi];exact uP _
        ·rw[hj,eq];exact dn2 i (lo+x-1) k1 (by omega) (by omega)
       ·exact dn2 i j k1 k2 (by omega)
      ·rw[show lo+(x+1)-1=lo+x by omega,eq]
       by_cases hk:k=lo+x
       ·rw[hk,eq]
       ·exact he k (by omega) (by omega)
   case post =>
    rintro c st2 ⟨x,q,rfl,x1,xm,sa2,dn2,hq,he⟩
    dsimp only
    have sz:=sa2.size
    by_cases q0:q>0
    case' pos =>
     rw[if_pos q0,wC]
     refine sR (ve ?_)
     have ke:=cC (key:=key) (xs:=tf st2) (i:=lo+x-(q+1)) (j:=lo+x) (by omega) he
     have sa3:=sa2.mirror (i:=lo+x-(q+1)) (j:=lo+x) (by omega) (by omega)
     have dn3:Down key (tf (setArr st2 (mirror (tf st2) (lo+x-(q+1)) (lo+x) ((lo+x-(lo+x-(q+1)))/2)))) lo x:=λi j k1 k2 k3=>by
      show O.kle (kk key (mirror (tf st2) (lo+x-(q+1)) (lo+x) ((lo+x-(lo+x-(q+1)))/2)) j) (kk key (mirror (tf st2) (lo+x-(q+1)) (lo+x) ((lo+x-(lo+x-(q+1)))/2)) i)
      rw[ke,ke]
      exact dn2 i j k1 k2 k3
     generalize setArr st2 (mirror (tf st2) (lo+x-(q+1)) (lo+x) ((lo+x-(lo+x-(q+1)))/2))=st3 at sa3 dn3 ⊢
     clear ke
    case' neg =>
     rw[if_neg q0]
     obtain ⟨st3,e3⟩:∃st3,st3=st2:=⟨_,rfl⟩
     have sa3:SA lo st st3:=by rw[e3];exact sa2
     have dn3:Down key (tf st3) lo x:=by rw[e3];exact dn2
     rw[<- e3]
     clear e3
    all_goals
     rw[wC]
     refine sR (ve ?_)
     have sz3:=sa3.size
     have sa4:=sa3.mirror (i:=lo) (j:=lo+x) (sS _) (by omega)
     have km:=gx (key:=key) (xs:=tf st3) (i:=lo) (j:=lo+x) (by omega)
     have up4:Up key (tf (setArr st3 (mirror (tf st3) lo (lo+x) ((lo+x-lo)/2)))) lo x:=λi j k1 k2 k3=>by
      show O.kle (kk key (mirror (tf st3) lo (lo+x) ((lo+x-lo)/2)) i) (kk key (mirror (tf st3) lo (lo+x) ((lo+x-lo)/2)) j)
      rw[km,km,if_pos ⟨by omega,by omega⟩,if_pos ⟨by omega,by omega⟩]
      exact dn3 _ _ (by omega) (by omega) (by omega)
     generalize setArr st3 (mirror (tf st3) lo (lo+x) ((lo+x-lo)/2))=st4 at sa4 up4 ⊢
     clear km
     have u4:∀p∈(tf st4).toList,U p:=λp hp=>hu p (sa4.mem hp)
     have sz4:=sa4.size
     refine sR (uZ (uu (I:=λz c st'=>st4=st'/\c=(none,z)/\z<=m/\Up key (tf st4) lo z)
      (Q:=λc st'=>st4=st'/\∃z,c=(none,z)/\1<=z/\z<=m/\Up key (tf st4) lo z) ?step ?fin ⟨rfl,rfl,xm,up4⟩) ?post)
     case fin =>
      rintro c st' ⟨rfl,rfl,zm,up⟩
      exact ⟨rfl,_,rfl,by omega,zm,up⟩
     case post =>
      rintro c st' ⟨rfl,z,rfl,z1,zm,up⟩
      exact sZ (h z st4 z1 zm sa4 up)
     case step =>
      rintro z c st' h1 h2 ⟨rfl,rfl,zm,up⟩
      dsimp only
      refine sR (df C (sa4.k.trans hκ) u4 (by omega) (by omega) ?_)
      dsimp only
      cases hb:O.blt (kk key (tf st4) (lo+z)) (kk key (tf st4) (lo+z-1)) with
      | true =>
       rw[if_pos rfl]
       exact sZ ⟨rfl,z,rfl,by omega,zm,up⟩
      | false =>
       rw[if_neg (by simp)]
       refine sZ ⟨rfl,rfl,by omega,λi j k1 k2 k3 =>?_⟩
       by_cases hj:j=lo+z
       ·by_cases hi:i=j
        ·rw[hi];exact uP _
        ·rw[hj];exact tZ (up i (lo+z-1) k1 (by omega) (by omega)) hb
       ·exact up i j k1 k2 (by omega)
theorem gy {xs:Array sW}{src d:Nat}(hs:src<xs.size)(hd:d<=src)(k:Nat) :
  kk key (bubble xs src d) k=if k=src-d then kk key xs src else if src-d<k/\k<=src then kk key xs (k-1) else kk key xs k:=by
 have e:=getElem?_bubble hs d hd k
 by_cases h1:k=src-d
 ·rw[if_pos h1] at e ⊢;exact dM e
 ·rw[if_neg h1] at e ⊢
  by_cases h2:src-d<k/\k<=src
  ·rw[if_pos h2] at e ⊢;exact dM e
  ·rw[if_neg h2] at e ⊢;exact dM e
theorem SA.bubble {lo:Nat}{st st':tK}(h:SA lo st st'){src d:Nat}(hs:src<(tf st').size)(hd:lo+d<=src):SA lo st (setArr st' (bubble (tf st') src d)) :=
 ⟨(bubble_perm _ _ _).trans h.perm,λk hk=>by
  show (PyProof.Rows.bubble (tf st') src d)[k]? = _
  rw[getElem?_bubble hs d (by omega),if_neg (by omega),if_neg (by omega)]
  exact h.pre k hk,h.k,h.p,h.f⟩
theorem mz (C:Cmp prog w A s O key U κ){st:tK}{lo n ok:Nat}{Q:Bool->tK->Prop}(hκ:kindOf st=κ)(hu:∀p∈(tf st).toList,U p)(hn:lo+n<=(tf st).size)(hok:ok<=n)(up:Up key (tf st) lo ok)
  (h:∀st',SA lo st st'->Up key (tf st') lo n->Q true st'):wpS (tN prog w) A E s (me lo n ok) Q st:=by
 rw[my]
 dsimp only
 refine sR (uZ (uu (I:=λx c st'=>c=(none,())/\SA lo st st'/\Up key (tf st') lo (min x n)) (Q:=λc st'=>c=(none,())/\SA lo st st'/\Up key (tf st') lo n) ?step ?fin ⟨rfl,SA.refl _ _,λi j k1 k2 k3 =>?_⟩) ?post)
 case post =>
  rintro c st' ⟨rfl,sa,up⟩
  exact sZ (h st' sa up)
 case fin =>
  rintro c st' ⟨rfl,sa,up⟩
  refine ⟨rfl,sa,?_⟩
  rw[show min (max (max ok 1) n) n=n by omega] at up
  exact up
 case step =>
  rintro k c st1 h1 h2 ⟨rfl,sa1,up1⟩
  rw[show min k n=k by omega] at up1
  have sz:=sa1.size
  have u1:∀p∈(tf st1).toList,U p:=λp hp=>hu p (sa1.mem hp)
  refine sR (uZ (uu (I:=λx c st'=>st1=st'/\∃l r,c=(none,l,r)/\l<=r/\r<=k/\r-l<=k-x/\(∀i,i<l->O.kle (kk key (tf st1) (lo+i)) (kk key (tf st1) (lo+k)))/\(∀i,r<=i->i<k->O.klt (kk key (tf st1) (lo+k)) (kk key (tf st1) (lo+i))))
   (Q:=λc st'=>st1=st'/\∃l r,c=(none,l,r)/\l<=k/\(∀i,i<l->O.kle (kk key (tf st1) (lo+i)) (kk key (tf st1) (lo+k)))/\(∀i,l<=i->i<k->O.klt (kk key (tf st1) (lo+k)) (kk key (tf st1) (lo+i)))) ?istep ?ifin ⟨rfl,0,k,rfl,by omega,by omega,by omega,λi hi=>by omega,λi a1 a2=>by omega⟩) ?ipost)
  case ifin =>
   rintro c st' ⟨rfl,l,r,rfl,b1,b2,b3,b4,b5⟩
   have e:l=r:=by omega
   subst e
   exact ⟨rfl,l,l,rfl,b2,b4,b5⟩
  case istep =>
   rintro x c st' _ hx ⟨rfl,l,r,rfl,b1,b2,b3,b4,b5⟩
   dsimp only
   by_cases hge:l≥r
   ·rw[if_pos hge]
    have e:l=r:=by omega
    subst e
    exact sZ ⟨rfl,l,l,rfl,b2,b4,b5⟩
   ·rw[if_neg hge]
    refine sR (df C (sa1.k.trans hκ) u1 (by omega) (by omega) ?_)
    dsimp only
    cases hb:O.blt (kk key (tf st1) (lo+k)) (kk key (tf st1) (lo+(l+r)/2)) with
    | true =>
     rw[if_pos rfl]
     exact sZ ⟨rfl,l,(l+r)/2,rfl,by omega,by omega,by omega,b4,λi a1 a2=>KeyOrd.klt_of_klt_of_kle hb (up1 _ _ (by omega) (by omega) (by omega))⟩
    | false =>
     rw[if_neg (by simp)]
     exact sZ ⟨rfl,(l+r)/2+1,r,rfl,by omega,by omega,by omega,λi a1=>tZ (up1 (lo+i) (lo+(l+r)/2) (by omega) (by omega) (by omega)) hb,b5⟩
  case ipost =>
   rintro c st' ⟨rfl,l,r,rfl,b2,b4,b5⟩
   dsimp only
   rw[moveDown'_eq]
   have e:lo+k-(lo+l)=k-l:=by omega
   refine sR (ve (sZ ⟨rfl,?_,?_⟩))
   ·rw[e]
    exact sa1.bubble (by omega) (by omega)
   ·rw[show min (k+1) n=k+1 by omega]
    intro i j k1 k2 k3
    show O.kle (kk key (bubble (tf st1) (lo+k) (lo+k-(lo+l))) i) (kk key (bubble (tf st1) (lo+k) (lo+k-(lo+l))) j)
    have lt:lo+k<(tf st1).size:=by omega
    rw[e,gy lt (by omega),gy lt (by omega),show lo+k-(k-l)=lo+l by omega]
    have b4':∀z,lo<=z->z<lo+l->O.kle (kk key (tf st1) z) (kk key (tf st1) (lo+k)):=λz z1 z2=>by
     have:=b4 (z-lo) (by omega)
     rw[show lo+(z-lo)=z by omega] at this
     exact this
    have b5':∀z,lo+l<=z->z<lo+k->O.kle (kk key (tf st1) (lo+k)) (kk key (tf st1) z):=λz z1 z2=>by
     have:=b5 (z-lo) (by omega) (by omega)
     rw[show lo+(z-lo)=z by omega] at this
     exact uC this
    repeat' split
    all_goals first
     | (exfalso;omega)
     | exact uP _
     | exact b4' _ (by omega) (by omega)
     | exact b5' _ (by omega) (by omega)
     | exact up1 _ _ (by omega) (by omega) (by omega)
 ·by_cases h1:ok=0
  ·rw[show i=j by omega];exact uP _
  ·exact up i j k1 k2 (by omega)
end
open PySem PyProof.Rows
def pwr:Nat->Nat->Nat->Nat->Nat:=sortPriv% PySem.Builtin.power
def mrn:Nat->Nat->Nat->Nat:=sortPriv% PySem.Builtin.minRun
theorem mD:pz=(do
    let sz:=(tf (← get)).size
    let mr:=mrn sz sz 0
    let mut lo:=0
    for _ in [0:sz] do
      if lo≥sz then break
      let some fd ← qo lo (sz-lo)
        | return
      let mut n:=fd
      if n<mr then
        rule "list.sort.binary-insertion"
        let fo:=min (sz-lo) mr
        if !(← me lo fo n) then return
        n:=fo
      if let some (s1,n1,_):=(tJ (← get)).back? then
        let pw:=pwr sz (2*s1+n1) (2*s1+n1+n1+n) sz
        for _ in [0:sz] do
          let p:=tJ (← get)
          let some (_,_,old):=(if p.size>1 then p[p.size-2]? else none)
            | break
          if old<=pw then break
          if !(← mAt (p.size-2)) then return
        modify λs=>SortSt.mk' (kindOf s) (tf s) ((tJ s).modify ((tJ s).size-1) λ(st,len,_)=>(st,len,pw)) (gallopOf s) (failedOf s)
      modify λs=>SortSt.mk' (kindOf s) (tf s) ((tJ s).push (lo,n,0)) (gallopOf s) (failedOf s)
      lo:=lo+n
    for _ in [0:sz] do
      let p:=tJ (← get)
      if p.size<=1 then break
      let i:=p.size-2
      let bf:=if i>0 then p[i-1]?.map (·.2.1) else none
      let i:=if bf.any (· < (p[i+1]?.elim 0 (·.2.1))) then i-1 else i
      if !(← mAt i) then return):=rfl
def Mt:Nat->List (List sW)->List (Nat×Nat×Nat)->Prop
 | _,[],[]=>True
 | off,r :: rs,p :: ps=>p.1=off/\p.2.1=r.length/\Mt (off+r.length) rs ps
 | _,_,_=>False
theorem Mt.length:∀{off:Nat} {rs:List (List sW)} {ps:List (Nat×Nat×Nat)},Mt off rs ps->ps.length=rs.length
 | _,[],[],_=>rfl
 | _,_ :: _,_ :: _,h=>by rw[tY,tY,Mt.length h.2.2]
theorem Mt.append:∀{off:Nat} {rs ts:List (List sW)} {ps us:List (Nat×Nat×Nat)},Mt off rs ps->Mt (off+rs.flatten.length) ts us->Mt off (rs++ts) (ps++us)
 | _,[],_,[],_,_,h=>by simpa using h
 | off,r :: rs,ts,p :: ps,us,h,h'=>by
  refine ⟨h.1,h.2.1,Mt.append h.2.2 ?_⟩
  rw[vc,tw, <- zz] at h'
  exact h'
theorem Mt.split:∀{off:Nat} {rs:List (List sW)} {ps:List (Nat×Nat×Nat)} (i:Nat),Mt off rs ps->i+1<ps.length →
  ∃R1 X Y R2 L1 w1 w2 L2,rs=R1++X :: Y :: R2/\ps=L1++(off+R1.flatten.length,X.length,w1) :: (off+R1.flatten.length+X.length,Y.length,w2) :: L2/\L1.length=i/\Mt off R1 L1/\Mt (off+R1.flatten.length+X.length+Y.length) R2 L2
 | off,r :: r2 :: rs,p :: p2 :: ps,0,h,_=>by
  obtain ⟨a,b,w1⟩:=p
  obtain ⟨c,d,w2⟩:=p2
  obtain ⟨h1,h2,h3,h4,h5⟩:=h
  dsimp only at h1 h2 h3 h4
  subst h1 h2 h3 h4
  exact ⟨[],r,r2,rs,[],w1,w2,ps,rfl,rfl,rfl,trivial,h5⟩
 | off,r :: rs,p :: ps,i+1,h,hl=>by
  rw[tY] at hl
  obtain ⟨R1,X,Y,R2,L1,w1,w2,L2,e1,e2,e3,m1,m2⟩:=Mt.split i h.2.2 (by omega)
  have ea:off+(r :: R1).flatten.length=off+r.length+R1.flatten.length:=by rw[vc,tw];omega
  refine ⟨r :: R1,X,Y,R2,p :: L1,w1,w2,L2,by rw[e1];rfl,?_,by rw[tY,e3],⟨h.1,h.2.1,m1⟩,?_⟩
  ·rw[ea,e2];rfl
  ·rw[ea];exact m2
 | off,[],[],i,_,hl=>by simp at hl
 | off,[_],[_],0,_,hl=>by simp at hl
theorem Mt.modify (f:Nat×Nat×Nat->Nat×Nat×Nat)(hf:∀p,(f p).1=p.1/\(f p).2.1=p.2.1):∀{off:Nat} {rs:List (List sW)} {ps:List (Nat×Nat×Nat)} (i:Nat),Mt off rs ps->Mt off rs (ps.modify i f)
 | _,[],[],i,_=>by cases i <;> exact trivial
 | off,r :: rs,p :: ps,0,h=>⟨(hf p).1.trans h.1,(hf p).2.trans h.2.1,h.2.2⟩
 | off,r :: rs,p :: ps,i+1,h=>⟨h.1,h.2.1,Mt.modify f hf i h.2.2⟩
theorem lD {α:Type}(l:List α)(a b c:α)(r:List α):((l++a :: b :: r).set l.length c).eraseIdx (l.length+1)=l++c :: r:=by
 induction l with
 | nil=>rfl
 | cons x l ih=>simp only[List.cons_append,tY,List.set_cons_succ,List.eraseIdx_cons_succ,ih]
section
variable  {O:wX}(key:sW->O.α)(U:sW->Prop)(κ:SortKind)
structure Rn (a0:List sW)(lo:Nat)(st:tK):Prop where
 ex:∃runs rest,(tf st).toList=runs.flatten++rest/\runs.flatten.length=lo/\(∀r∈runs,r.Pairwise (Le key)/\0<r.length)/\Mt 0 runs (tJ st).toList
 perm:(tf st).toList.Perm a0
 k:kindOf st=κ
 f:failedOf st=none
end
section
variable  {prog:tj}{w:ud}{A:ue}{E:sJ->sL->Prop}{s:sL}{O:wX}{key:sW->O.α}{U:sW->Prop}{κ:SortKind}
theorem iP (C:Cmp prog w A s O key U κ){a0:List sW}{lo i:Nat}{st:tK}{Q:Bool->tK->Prop}(hu:∀p∈a0,U p)(R:Rn key κ a0 lo st)(hi:i+1<(tJ st).size)
  (h:∀st',Rn key κ a0 lo st'->(tJ st').size+1=(tJ st).size->(tf st').toList.drop lo=(tf st).toList.drop lo->Q true st'):wpS (tN prog w) A E s (mAt i) Q st:=by
 obtain ⟨runs,rest,ea,el,er,em⟩:=R.ex
 obtain ⟨R1,X,Y,R2,L1,w1,w2,L2,e1,e2,e3,m1,m2⟩:=Mt.split i em (by rw[sU];exact hi)
 subst e1
 rw[xi] at e2 m2
 have hx:=er X (by simp)
 have hy:=er Y (by simp)
 have ga:(tJ st)[i]? = some (R1.flatten.length,X.length,w1):=by
  rw[<- tq,e2, <- e3,show L1.length=L1.length+0 by omega,jA];rfl
 have gb:(tJ st)[i+1]? = some (R1.flatten.length+X.length,Y.length,w2):=by
  rw[<- tq,e2, <- e3,jA];rfl
 refine qz C (P:=R1.flatten) (X:=X) (Y:=Y) (S:=R2.flatten++rest) R.k R.f (by rw[ea];simp) (λp hp=>hu p (R.perm.mem_iff.mp hp)) ga gb hx.2 hy.2 hx.1 hy.1 λst' M pm sm ar pd kd fl =>?_
 have lm:M.length=X.length+Y.length:=by rw[pm.length_eq,tw]
 have ep:(tJ st').toList=L1++(R1.flatten.length,X.length+Y.length,w1) :: L2:=by
  rw[pd,Array.toList_eraseIdxIfInBounds,w6,e2, <- e3]
  exact lD _ _ _ _ _
 refine h st' ⟨⟨R1++M :: R2,rest,?_,?_,λr hr =>?_,?_⟩,?_,kd,fl⟩ ?_ ?_
 ·rw[ar];simp
 ·rw[<- el];simp[lm];omega
 ·rcases tO.mp hr with q | q
  ·exact er r (by simp[q])
  ·rcases tG.mp q with q | q
   ·rw[q];exact ⟨sm,by have:=hx.2;omega⟩
   ·exact er r (by simp[q])
 ·rw[ep]
  refine Mt.append m1 ⟨by rw[xi],lm.symm,?_⟩
  rw[xi,lm, <- zz]
  exact m2
 ·rw[ar]
  refine List.Perm.trans ?_ R.perm
  rw[ea,show (R1++X :: Y :: R2).flatten++rest=R1.flatten++((X++Y)++(R2.flatten++rest)) by simp]
  exact u5 _ (vk _ pm)
 ·rw[<- sU, <- sU,ep,e2]
  simp only[tw,tY]
  omega
 ·have l1:(R1++M :: R2).flatten.length=lo:=by rw[<- el];simp[lm];omega
  have q1:(tf st').toList=(R1++M :: R2).flatten++rest:=by rw[ar];simp
  rw[q1,ea, <- l1,xu,l1, <- el,xu]
theorem Rn.sa {a0:List sW}{lo:Nat}{st st':tK}(R:Rn key κ a0 lo st)(sa:SA lo st st'):Rn key κ a0 lo st':=by
 obtain ⟨runs,rest,ea,el,er,em⟩:=R.ex
 have et:(tf st').toList.take lo=runs.flatten:=by
  have e1:(tf st').toList.take lo=(tf st).toList.take lo:=by
   refine List.ext_getElem? λi =>?_
   rw[u6,u6]
   split
   ·rw[tq,tq];exact sa.pre i (by assumption)
   ·rfl
  rw[e1,ea, <- el,List.take_left]
 refine ⟨⟨runs,(tf st').toList.drop lo,by rw[<- et,vp],el,er,by rw[sa.p];exact em⟩,(w9.mp sa.perm).trans R.perm,sa.k.trans R.k,sa.f.trans R.f⟩
theorem lE {xs:Array sW}{lo n:Nat}(h:Up key xs lo n):((xs.toList.drop lo).take n).Pairwise (Le key):=by
 refine vq.mpr λi j hi hj hij =>?_
 have get:∀k (hk:k<((xs.toList.drop lo).take n).length),key ((xs.toList.drop lo).take n)[k]=kk key xs (lo+k)/\k<n:=λk hk=>by
  have hk':=hk
  rw[uH] at hk'
  refine ⟨?_,by omega⟩
  have e:((xs.toList.drop lo).take n)[k]? = xs[lo+k]? := by
   rw[u6,if_pos (by omega),wc,tq]
  rw[tE hk] at e
  unfold kk
  rw[<- e];rfl
 obtain ⟨e1,l1⟩:=get i hi
 obtain ⟨e2,l2⟩:=get j hj
 show O.kle (key _) (key _)
 rw[e1,e2]
 exact h _ _ (by omega) (by omega) (by omega)
theorem Rn.push {a0:List sW}{lo n:Nat}{st:tK}(R:Rn key κ a0 lo st)(hn:0<n)(hz:lo+n<=(tf st).size)(hs:(((tf st).toList.drop lo).take n).Pairwise (Le key)) :
  Rn key κ a0 (lo+n) (SortSt.mk' (kindOf st) (tf st) ((tJ st).push (lo,n,0)) (gallopOf st) (failedOf st)):=by
 obtain ⟨runs,rest,ea,el,er,em⟩:=R.ex
 have ed:(tf st).toList.drop lo=rest:=by rw[ea, <- el,xu]
 rw[ed] at hs
 have lr:n<=rest.length:=by
  have:=congrArg List.length ea
  rw[sU,tw,el] at this
  omega
 have lt:(rest.take n).length=n:=by rw[uH];omega
 refine ⟨⟨runs++[rest.take n],rest.drop n,?_,?_,λr hr =>?_,?_⟩,R.perm,R.k,R.f⟩
 ·show (tf st).toList=_
  rw[ea];simp
 ·simp[lt,el]
 ·rcases tO.mp hr with q | q
  ·exact er r q
  ·have e:r=rest.take n:=by simpa using q
   rw[e];exact ⟨hs,by omega⟩
 ·show Mt 0 _ ((tJ st).push (lo,n,0)).toList
  rw[vd]
  exact Mt.append em ⟨by show lo=_;omega,lt.symm,trivial⟩
theorem Rn.mod {a0:List sW}{lo:Nat}{st:tK}(R:Rn key κ a0 lo st)(i:Nat)(f:Nat×Nat×Nat->Nat×Nat×Nat)(hf:∀p,(f p).1=p.1/\(f p).2.1=p.2.1):Rn key κ a0 lo (SortSt.mk' (kindOf st) (tf st) ((tJ st).modify i f) (gallopOf st) (failedOf st)):=by
 obtain ⟨runs,rest,ea,el,er,em⟩:=R.ex
 refine ⟨⟨runs,rest,ea,el,er,?_⟩,R.perm,R.k,R.f⟩
 show Mt 0 runs ((tJ st).modify i f).toList
 rw[Array.toList_modify]
 exact Mt.modify f hf i em
theorem qA {c:Prop}[Decidable c]{n:Nat}(h:1<n):(if c then n-2-1 else n-2)+1<n:=by split <;> omega
theorem gz:∀{runs:List (List sW)},(∀r∈runs,0<r.length)->runs.length<=runs.flatten.length
 | [],_=>sS _
 | r :: rs,h=>by
  have h1:=h r ur
  have h2:=gz λq hq=>h q (tS _ hq)
  rw[vc,tw,tY]
  omega
theorem iQ (C:Cmp prog w A s O key U κ){a0:List sW}{st:tK}{Q:Unit->tK->Prop}(hu:∀p∈a0,U p)(ha:(tf st).toList=a0)(hp:tJ st = #[])(hk:kindOf st=κ)(hf:failedOf st=none)(h1:1<=a0.length)
  (h:∀st',(tf st').toList.Perm a0->(tf st').toList.Pairwise (Le key)->failedOf st'=none->Q () st'):wpS (tN prog w) A E s pz Q st:=by
 rw[mD]
 refine sR (xv ?_)
 dsimp only
 have sz0:(tf st).size=a0.length:=by rw[<- sU,ha]
 have szR:∀{lo:Nat} {st':tK},Rn key κ a0 lo st'->(tf st').size=(tf st).size:=λR=>by rw[<- sU,R.perm.length_eq,sz0]
 have uR:∀{lo:Nat} {st':tK},Rn key κ a0 lo st'->∀p∈(tf st').toList,U p:=λR p hp=>hu p (R.perm.mem_iff.mp hp)
 have R0:Rn key κ a0 0 st:=⟨⟨[],a0,by rw[ha];rfl,rfl,λr hr=>(by cases hr),by rw[hp];exact trivial⟩,by rw[ha],hk,hf⟩
 refine sR (uZ (uu (I:=λx c st'=>∃lo,c=(none,lo)/\x<=lo/\lo<=(tf st).size/\Rn key κ a0 lo st') (Q:=λc st'=>c=(none,(tf st).size)/\Rn key κ a0 (tf st).size st') ?step ?fin ⟨0,rfl,sS _,uz _,R0⟩) ?post)
 case fin =>
  rintro c st' ⟨lo,rfl,l1,l2,R⟩
  obtain rfl:lo=(tf st).size:=by omega
  exact ⟨rfl,R⟩
 case post =>
  rintro c st1 ⟨rfl,R⟩
  dsimp only
  have p0:(tJ st1).size<=(tf st).size:=by
   obtain ⟨runs,rest,ea,el,er,em⟩:=R.ex
   have q:=em.length
   rw[sU] at q
   have:=gz λr hr=>(er r hr).2
   omega
  refine sR (uZ (uu (I:=λx c st'=>c=(none,())/\Rn key κ a0 (tf st).size st'/\((tJ st').size<=1\/(tJ st').size+x<=(tf st).size)) (Q:=λc st'=>c=(none,())/\Rn key κ a0 (tf st).size st'/\(tJ st').size<=1) ?stepB ?finB ⟨rfl,R,.inr (by omega)⟩) ?postB)
  case finB =>
   rintro c st' ⟨rfl,R,q⟩
   exact ⟨rfl,R,by omega⟩
  case stepB =>
   rintro x c st' _ hx ⟨rfl,R,q⟩
   refine sR (xv ?_)
   by_cases c1:(tJ st').size<=1
   ·rw[if_pos c1]
    exact sZ ⟨rfl,R,c1⟩
   rw[if_neg c1]
   refine sR (iP C hu R (qA (by omega)) λst2 R2 s2 _ =>?_)
   simp only[xH,uN,if_false]
   exact sZ ⟨rfl,R2,by omega⟩
  case postB =>
   rintro c st' ⟨rfl,R,q⟩
   obtain ⟨runs,rest,ea,el,er,em⟩:=R.ex
   have lm:=em.length
   rw[sU] at lm
   have lr:=congrArg List.length ea
   rw[sU,szR R,tw,el] at lr
   have er0:rest=[]:=List.length_eq_zero_iff.mp (by omega)
   subst er0
   rw[uA] at ea
   match runs,er,lm,el,ea with
   | [],_,_,el,_=>simp at el;omega
   | [r],er,_,_,ea =>
    have e:(tf st').toList=r:=by rw[ea];simp
    exact sZ (h st' R.perm (by rw[e];exact (er r (by simp)).1) R.f)
   | _ :: _ :: _,_,lm,_,_=>simp at lm;omega
 case step =>
  rintro x c st1 _ hx ⟨lo,rfl,l1,l2,R⟩
  dsimp only
  by_cases cl:lo≥(tf st).size
  ·rw[if_pos cl]
   obtain rfl:lo=(tf st).size:=by omega
   exact sZ ⟨rfl,R⟩
  rw[if_neg cl]
  have s1:=szR R
  refine sR (oz C R.k (uR R) (by omega) (by omega) λn st2 n1 n2 sa2 up2 =>?_)
  dsimp only
  have R2:=R.sa sa2
  have s2:=szR R2
  by_cases cm:n<mrn (tf st).size (tf st).size 0
  case' pos =>
   rw[if_pos cm]
   refine sR (xK (wu ⟨rfl,?_⟩))
   obtain ⟨fo,e⟩:∃fo,fo=min ((tf st).size-lo) (mrn (tf st).size (tf st).size 0):=⟨_,rfl⟩
   rw[<- e]
   refine sR (mz C R2.k (uR R2) (by omega) (by omega) up2 λst3 sa3 up3 =>?_)
   simp only[xH,uN,if_false]
   have R3:=R2.sa sa3
   have f0:0<fo:=by omega
   have f1:lo+fo<=(tf st).size:=by omega
  case' neg =>
   rw[if_neg cm]
   obtain ⟨fo,e⟩:∃fo,fo=n:=⟨_,rfl⟩
   subst e
   obtain ⟨st3,e3⟩:∃st3,st3=st2:=⟨_,rfl⟩
   subst e3
   have R3:=R2
   have up3:=up2
   have f0:0<fo:=n1
   have f1:lo+fo<=(tf st).size:=by omega
  all_goals
   have srt:=lE up3
   have s3:=szR R3
   refine sR (xv ?_)
   cases hbk:(tJ st3).back? with
   | none =>
    dsimp only
    exact sR (ve (sZ ⟨lo+fo,rfl,by omega,f1,R3.push f0 (by omega) srt⟩))
   | some t =>
    obtain ⟨t1,t2,t3⟩:=t
    dsimp only
    refine sR (uZ (uu (I:=λ_ c st'=>c=(none,())/\Rn key κ a0 lo st'/\(tf st').toList.drop lo=(tf st3).toList.drop lo) (Q:=λc st'=>c=(none,())/\Rn key κ a0 lo st'/\(tf st').toList.drop lo=(tf st3).toList.drop lo) ?stepC ?finC ⟨rfl,R3,rfl⟩) ?postC)
    case finC=>exact λc st' q=>q
    case stepC =>
     rintro z c st4 _ _ ⟨rfl,R4,d4⟩
     refine sR (xv ?_)
     by_cases p1:(tJ st4).size>1
     ·rw[if_pos p1]
      have lt:(tJ st4).size-2<(tJ st4).size:=by omega
      have e:(tJ st4)[(tJ st4).size-2]? = some (tJ st4)[(tJ st4).size-2]:=by simp[lt]
      rw[e]
      dsimp only
      split
      ·exact sZ ⟨rfl,R4,d4⟩
      ·refine sR (iP C hu R4 (by omega) λst5 R5 _ d5 =>?_)
       simp only[xH,uN,if_false]
       exact sZ ⟨rfl,R5,d5.trans d4⟩
     ·rw[if_neg p1]
      exact sZ ⟨rfl,R4,d4⟩
    case postC =>
     rintro c st4 ⟨rfl,R4,d4⟩
     dsimp only
     have s4:=szR R4
     refine sR (ve (sR (ve (sZ ⟨lo+fo,rfl,by omega,f1,?_⟩))))
     refine Rn.push ?_ f0 ?_ ?_
     ·refine Rn.mod R4 _ _ ?_
      exact λp=>⟨rfl,rfl⟩
     ·show lo+fo<=(tf st4).size
      omega
     ·show (((tf st4).toList.drop lo).take fo).Pairwise (Le key)
      rw[d4]
      exact srt
end
open PySem PyProof.Rows
structure fi (prog:tj)(w:ud)(s:sL)(vs:List sJ)(O:wX)(key:sJ->O.α):Prop where
 ok:2<=vs.length->∀(A:ue) (h6:Heap),(∀b o,s.heap.get? b=some o->h6.get? b=some o)->∃κ,(∀(Q:SortKind->sL->Prop) (E:sJ->sL->Prop),Q κ { s with heap:=h6 }->tP (tN prog w) A (keyKind' vs.toArray) Q E { s with heap:=h6 }) ∧
  Cmp prog w A { s with heap:=h6 } O (λp=>key p.1) (λp=>p.1=p.2/\p.1∈vs) κ
section
variable  {prog:tj}{w:ud}{A:ue}{E:sJ->sL->Prop}{s:sL}{O:wX}{key:sJ->O.α}
theorem zs:∀vs:List sJ,(vs.zip vs).map (·.2)=vs
 | []=>rfl
 | v :: vs=>by rw[yw,ug,zs vs]
theorem dN {l:List sW}{vs:List sJ}(h:l.Perm (vs.zip vs)):(l.map (·.2)).Perm vs/\∀p∈l,p.1=p.2/\p.1∈vs:=by
 have e:=zs vs
 refine ⟨by have:=h.map (·.2);rw[e] at this;exact this,λp hp =>?_⟩
 have m:=h.mem_iff.mp hp
 obtain ⟨i,hi⟩:=uc.mp m
 rw[xp] at hi
 have e1:=hi.1.symm.trans hi.2
 exact ⟨tV e1,tD hi.1⟩
theorem f9 {a:Addr}{vs:List sJ}{n:Nat}{P:Fin->sL->Prop}(ho:s.heap.get? a=some (seqObj "list" vs.toArray n))(hz:vs.length<=sM)
    (hc:2<=vs.length->∀h6,(∀b o,b≠a->s.heap.get? b=some o->h6.get? b=some o)->∃κ,(∀(Q:SortKind->sL->Prop) (E:sJ->sL->Prop),Q κ { s with heap:=h6 }->tP (tN prog w) A (keyKind' vs.toArray) Q E { s with heap:=h6 }) ∧
      Cmp prog w A { s with heap:=h6 } O (λp=>key p.1) (λp=>p.1=p.2/\p.1∈vs) κ)
    (h:∀out:List sJ,out.Perm vs->out.Pairwise (λx y=>O.kle (key x) (key y))->P (.done (.ret .none)) { s with heap:=sortedHeap s.heap a vs out.toArray }):tP (tN prog w) A (Builtin.«list.sort» ⟨[.ref a],[]⟩) P E s:=by
  rw[list_sort_plain]
  have ha:a<s.heap.objs.size:=sV ho
  refine sP (x9 ho rfl ?_)
  refine sP (wJ ho rfl ?_ (by rw[sO];exact hz) (uz _))
  obtain ⟨e1,ho1⟩:∃e1,(s.heap.update a (vy λ_ => #[])).get? a=some (seqObj "list" #[] e1):=⟨_,yb ho (λ_ => #[])⟩
  refine sP (yp ho1 rfl (sP (wpAny_newTuple ?_ (by exact hz))))
  refine sP (wK ?_ (uz _))
  refine vC ?_
  generalize hH:((s.heap.update a (vy λ_ => #[])).push (seqObj "tuple" vs.toArray 0)).push (seqObj "list" #[] 0)=h6
  have kp:∀b o,b≠a->s.heap.get? b=some o->h6.get? b=some o:=λb o nb e=>by
    rw[<- hH]
    refine sN _ (sN _ ?_)
    rw[vi _ _ _ _ nb]
    exact e
  have ho6:h6.get? a=some (seqObj "list" #[] e1):=by
    rw[<- hH]
    exact sN _ (sN _ ho1)
  have eH:∀out:List sJ,sortedHeap s.heap a vs out.toArray=h6.update a (vy λ_=>out.toArray):=λout=>by rw[<- hH];rfl
  have go:∀st':tK,(tf st').toList.Perm (vs.zip vs)->(tf st').toList.Pairwise (λp q=>O.kle (key p.1) (key q.1))->failedOf st'=none →
      tP (tN prog w) A (do
        let sorted:=(tf st').map (·.2)
        let touched:=(← seqEpoch a) != e1
        Builtin.List.listUpdate (.ref a) λ_=>sorted
        if let some e:=failedOf st' then rule "list.sort.comparison-raised";throw e
        if touched then rule "list.sort.modified";raiseError "ValueError" "list modified during sort"
        ret .none) P E { s with heap:=h6 }:=by
    intro st' pm ps hf
    obtain ⟨z1,z2⟩:=dN pm
    have em:(tf st').map (·.2)=((tf st').toList.map (·.2)).toArray:=by
      apply xN.mp
      rw[yU]
    dsimp only
    refine sP (yp ho6 rfl ?_)
    refine sP (wJ ho6 rfl ?_ (uz _) (by rw[zk, <- sU,pm.length_eq,wR,x5];omega))
    rw[hf]
    simp only[bne_self_eq_false,uN,if_false]
    refine tQ ?_
    rw[em, <- eH]
    refine h _ z1 (wq.mpr (ps.imp_of_mem λ{p q} hp hq le =>?_))
    rw[<- (z2 p hp).1, <- (z2 q hq).1]
    exact le
  by_cases h2:vs.toArray.size<2
  · rw[if_pos h2,if_pos h2]
    refine sP (tQ ?_)
    dsimp only
    rw[StateT.run_pure]
    refine sP (tQ ?_)
    refine go (SortSt.mk' general' (vs.toArray.zip vs.toArray) #[] 7 none) (by show (vs.toArray.zip vs.toArray).toList.Perm _;simp) ?_ rfl
    rw[sO] at h2
    have et:(vs.toArray.zip vs.toArray).toList=vs.zip vs:=by simp
    show (vs.toArray.zip vs.toArray).toList.Pairwise (λ(p q:sW)=>O.kle (key p.1) (key q.1))
    rw[et]
    have short:∀us:List sJ,us.length<2->(us.zip us).Pairwise (λ(p q:sW)=>O.kle (key p.1) (key q.1)):=λus hu=>by
      match us,hu with
      | [],_=>exact List.Pairwise.nil
      | [v],_=>exact uO _ _
      | _ :: _ :: _,hu=>simp only[tY] at hu;omega
    exact short vs h2
  · rw[if_neg h2,if_neg h2]
    rw[sO] at h2
    obtain ⟨κ,k1,C⟩:=hc (by omega) h6 kp
    refine sP (k1 _ _ ?_)
    have et:(vs.toArray.zip vs.toArray).toList=vs.zip vs:=by simp
    refine sP (uw (iQ C (E:=E) (a0:=vs.zip vs) (st:=SortSt.mk' κ (vs.toArray.zip vs.toArray) #[] 7 none)
      (Q:=λ_ st'=>(tf st').toList.Perm (vs.zip vs)/\(tf st').toList.Pairwise (Le λ(p:sW)=>key p.1)/\failedOf st'=none)
      (dN (xr _)).2 et rfl rfl rfl (by rw[wR,x5];omega) λst' a1 a2 a3=>⟨a1,a2,a3⟩) ?_ λ_ _ e=>e)
    rintro ⟨⟨⟩,st'⟩ s' ⟨rfl,hp,hs,hf⟩
    exact go st' hp hs hf
def fG (prog:tj)(w:ud)(s:sL)(v:sJ)(vs:List sJ):Prop :=
 ∀(A:ue) (E:sJ->sL->Prop) (R:List sJ->sL->Prop),(∀h1,(∀b o,s.heap.get? b=some o->h1.get? b=some o)->s.heap.objs.size<=h1.objs.size->R vs { s with heap:=h1 })->tP (tN prog w) A (collect v) R E s
theorem jB {v:sJ}{vs:List sJ}{Q:sJ->sL->Prop}(hv:fG prog w s v vs)(hz:vs.length<=sM)(C:fi prog w s vs O key)
  (h:∀(h':Heap) (p:Addr) (out:List sJ) (n:Nat),(∀b o,s.heap.get? b=some o->h'.get? b=some o)->s.heap.objs.size<=p->h'.get? p=some (seqObj "list" out.toArray n)->out.Perm vs->out.Pairwise (λx y=>O.kle (key x) (key y))->Q (.ref p) { s with heap:=h' }) :
  tP (tN prog w) A (call (.builtin "sorted") [v]) Q E s:=by
 refine Calls.call_function_entry kind_sorted plain_sorted entry_sorted (args_sorted1 _) ?_
 unfold Builtin.«sorted»
 refine sP (m:=checkCount "sorted" 1 1 _) (tQ ?_)
 refine sP (hv _ _ _ λh1 k1 z1=>sP (wK ?_ hz))
 have hoL:(h1.push (seqObj "list" vs.toArray 0)).get? h1.objs.size=some (seqObj "list" vs.toArray 0):=tR _ rfl
 have kL:∀b o,s.heap.get? b=some o->(h1.push (seqObj "list" vs.toArray 0)).get? b=some o:=λb o e=>sN _ (k1 b o e)
 refine sP (vC (vF slot_list_sort ⟨_,hoL,rfl⟩ entry_list_sort (f9 (key:=key) (O:=O) hoL hz (λh2 h6 k6 =>?_) λout pm ps=>⟨_,rfl,?_⟩) (args_list_sort _)))
 ·exact C.ok h2 _ h6 λb o e=>k6 b o (tW (sT (sV e) z1)) (kL b o e)
 ·obtain ⟨n,en⟩:=sortedHeap_at (out:=out.toArray) hoL
  refine tQ ⟨_,rfl,h _ _ out n (λb o e =>?_) z1 en pm ps⟩
  have lt:=sT (sV e) z1
  rw[sortedHeap_old (tW lt) (by rw[zy];exact xx lt)]
  exact kL b o e
theorem dO {l:Addr}{o:Obj}{vs:List sJ}{n:Nat}(ho:s.heap.get? l=some o)(hc:o.cls = .type "list" \/ o.cls = .type "tuple")(hd:o.data = .seq vs.toArray n)(hz:vs.length<=sM):fG prog w s (.ref l) vs:=by
  intro A E R h
  unfold collect
  refine sP (wpAny_runValue (yc entry_proto_collect' ?_))
  show tP _ _ (do again (.builtin "list.__iadd__" ⟨[<- newList [],.ref l],[]⟩)) _ _ s
  refine sP (wK (tQ ⟨wd _ (by decide +kernel),yc entry_list_iadd' ?_⟩))
  show tP _ _ (wY (.ref s.heap.objs.size) (.ref l) (.ref s.heap.objs.size)) _ _ { s with heap:=s.heap.push (seqObj "list" #[] 0) }
  unfold wY
  have ho':(s.heap.push (seqObj "list" #[] 0)).get? l=some o:=sN _ ho
  have cond:∀T,o.cls = .type T->(T = "list" \/ T = "tuple")->tP (tN prog w) A (typeOf (.ref l)) (λt s'=>t = .type T/\s'={ s with heap:=s.heap.push (seqObj "list" #[] 0) }) E { s with heap:=s.heap.push (seqObj "list" #[] 0) }:=λT e _=>wpAny_typeOf (T:=T) ⟨o,ho',e⟩ ⟨rfl,rfl⟩
  obtain ⟨T,eT,hT⟩:∃T,o.cls = .type T/\(T = "list" \/ T = "tuple"):=by
    rcases hc with hc | hc
    · exact ⟨_,hc,.inl rfl⟩
    · exact ⟨_,hc,.inr rfl⟩
  refine sP (wpAny_typeOf (T:=T) ⟨o,ho',eT⟩ ?_)
  rw[if_pos (by rcases hT with rfl | rfl <;> simp)]
  refine sP (x9 ho' hd ?_)
  refine sP (x9 (xs := #[]) (n:=0) (tR _ rfl) rfl ?_)
  rw[if_neg (by simp)]
  refine sP (wJ (xs := #[]) (n:=0) (tR _ rfl) rfl ?_ (uz _) (by show (#[]++vs.toArray).size<=sM+1;simp only[vv,sO,vK];omega))
  refine tQ ?_
  show tP (tN prog w) A (do
      let o ← load s.heap.objs.size
      match o.data with
      | .seq xs _=>pure xs.toList
      | _=>unsupported "internal:collect") R E { s with heap:=(s.heap.push (seqObj "list" #[] 0)).update s.heap.objs.size (vy (· ++ vs.toArray)) }
  refine sP (wpAny_load (yb (tR _ rfl) _) ?_)
  show tP _ _ (pure ((#[]:Array sJ)++vs.toArray).toList) R E _
  rw[show ((#[]:Array sJ)++vs.toArray).toList=vs by simp]
  refine tQ (h _ (λb ob e =>?_) ?_)
  · rw[vi _ _ _ _ (tW (sV e))]
    exact sN _ e
  · rw[Heap.size_update,zy]
    exact wN _
end
open PySem PyProof.Rows
def qB:wX where
 α:=Int
 blt:=λa b=>decide (a<b)
 irrefl:=λa=>by simp
 trans:=λa b c h1 h2=>by simp at *;omega
 negTrans:=λa b c h=>by simp at *;omega
 total:=λa b h1 h2=>by simp at *;omega
theorem lex_irrefl:∀a,HT.lexLt a a=false
 | []=>rfl
 | x :: xs=>by rw[HT.cy,if_pos rfl];exact lex_irrefl xs
theorem lex_trans:∀a b c,HT.lexLt a b=true->HT.lexLt b c=true->HT.lexLt a c=true
 | [],[],_,h,_=>by cases h
 | [],_ :: _,[],_,h=>by cases h
 | [],_ :: _,_ :: _,_,_=>rfl
 | _ :: _,[],_,h,_=>by cases h
 | _ :: _,_ :: _,[],_,h=>by cases h
 | x :: xs,y :: ys,z :: zs,h1,h2=>by
  rw[HT.cy] at *
  by_cases e1:x=y
  ·subst e1
   rw[if_pos rfl] at h1
   by_cases e2:x=z
   ·rw[if_pos e2] at h2 ⊢
    exact lex_trans xs ys zs h1 h2
   ·rw[if_neg e2] at h2 ⊢
    exact h2
  ·rw[if_neg e1] at h1
   have l1:=of_decide_eq_true h1
   by_cases e2:y=z
   ·subst e2
    rw[if_neg e1]
    exact h1
   ·rw[if_neg e2] at h2
    have l2:=of_decide_eq_true h2
    rw[if_neg (by omega)]
    exact decide_eq_true (by omega)
theorem eB:∀a b,HT.lexLt a b=false->HT.lexLt b a=false->a=b
 | [],[],_,_=>rfl
 | [],_ :: _,h,_=>by cases h
 | _ :: _,[],_,h=>by cases h
 | x :: xs,y :: ys,h1,h2=>by
  rw[HT.cy] at *
  by_cases e:x=y
  ·subst e
   rw[if_pos rfl] at h1 h2
   rw[eB xs ys h1 h2]
  ·rw[if_neg e] at h1
   rw[if_neg (vf e)] at h2
   have a1:=of_decide_eq_false h1
   have a2:=of_decide_eq_false h2
   omega
theorem oA (a b c:List Int)(h:HT.lexLt a c=true):HT.lexLt a b=true\/HT.lexLt b c=true:=by
 cases h1:HT.lexLt a b with
 | true=>exact .inl rfl
 | false =>
  right
  cases h2:HT.lexLt b a with
  | true=>exact lex_trans b a c h2 h
  | false=>rw[<- eB a b h1 h2];exact h
def lexOrd:wX where
 α:=List Int
 blt:=HT.lexLt
 irrefl:=lex_irrefl
 trans:=lex_trans
 negTrans:=oA
 total:=eB
def intOf:sJ->Int
 | .int i _=>i
 | _=>0
section
variable  {prog:tj}{w:ud}{A:ue}{E:sJ->sL->Prop}{s:sL}
theorem dP:∀{vs:List sJ} {ns:List Int},v5 vs ns->∀v∈vs,∃i t,v = .int i t
 | _,_,.nil,v,h=>by cases h
 | _,_,.cons n t r,v,h=>by
  rcases tG.mp h with e | e
  ·exact ⟨n,t,e⟩
  ·exact dP r v e
theorem hG {vs:List sJ}{ns:List Int}(hI:v5 vs ns):fi prog w s vs qB intOf:=by
 refine ⟨λh2 A h6 _=>⟨oneType',λQ E q =>?_,⟨λE st x y Q hk hx hy q =>?_⟩⟩⟩
 ·match vs,h2,hI with
  | v1 :: v2 :: rest,_,hI =>
   rw[keyKind_ints hI]
   exact tQ q
  | [],h2,_=>simp at h2
  | [_],h2,_=>simp at h2
 ·obtain ⟨i,t,e1⟩:=dP hI _ hx.2
  obtain ⟨j,u,e2⟩:=dP hI _ hy.2
  rw[lt'_eq]
  refine sR (xv ?_)
  rw[hk,keyLt'_oneType,e1,e2]
  refine sR (xK (yD (oneLt_int ⟨rfl,?_⟩)))
  refine sZ ?_
  have q':Q (some (decide (intOf x.1<intOf y.1))) st:=q
  rw[e1,e2] at q'
  exact q'
def cD (h:Heap)(v:sJ):List Int:=match v with
 | .ref p=>match h.get? p with
  | some o=>match o.data with
   | .seq xs _=>xs.toList.map intOf
   | _=>[]
  | none=>[]
 | _=>[]
def cE (h:Heap)(v:sJ)(ns:List Int):Prop:=∃p o xs n,v = .ref p/\h.get? p=some o/\o.cls = .type "tuple" /\ o.data = .seq xs n/\v5 xs.toList ns
theorem ints_map:∀{vs:List sJ} {ns:List Int},v5 vs ns->vs.map intOf=ns
 | _,_,.nil=>rfl
 | _,_,.cons n t r=>by rw[ug,ints_map r];rfl
theorem cE.ints {h:Heap}{v:sJ}{ns:List Int}(x:cE h v ns):cD h v=ns:=by
 obtain ⟨p,o,xs,n,rfl,e,_,d,r⟩:=x
 unfold cD
 dsimp only
 rw[e]
 dsimp only
 rw[d]
 exact ints_map r
theorem cE.keeps {h h':Heap}{v:sJ}{ns:List Int}(x:cE h v ns)(k:∀b o,h.get? b=some o->h'.get? b=some o):cE h' v ns:=by
 obtain ⟨p,o,xs,n,rfl,e,r⟩:=x
 exact ⟨p,o,xs,n,rfl,k _ _ e,r⟩
theorem iR {fin:Bool}{Q:Bool->sL->Prop}:∀{us ws:List sJ} {ns ms:List Int} (i:Nat),v5 us ns->v5 ws ms->(fin=true↔(decide (ns.length<ms.length)=true))->Q (HT.lexLt ns ms) s →
  PySem.W.KatLex prog w A true fin Q (us.zip ws) i s
 | _,_,_,_,i,.nil,.nil,hf,q=>by
  refine x6 ?_
  have e:fin=false:=by cases fin with
   | false=>rfl
   | true=>have:=hf.mp rfl;simp at this
  rw[e];exact q
 | _,_,_,_,i,.nil,.cons _ _ _,hf,q=>by
  refine x6 ?_
  have e:fin=true:=hf.mpr (by simp)
  rw[e];exact q
 | _,_,_,_,i,.cons _ _ _,.nil,hf,q=>by
  refine x6 ?_
  have e:fin=false:=by cases fin with
   | false=>rfl
   | true=>have:=hf.mp rfl;simp at this
  rw[e];exact q
 | _,_,_,_,i,.cons (ns:=ns) a t r,.cons (ns:=ms) c u r',hf,q=>by
  rw[yw]
  refine PySem.W.kat_cons (wpAny_eqBool_int ?_)
  rw[HT.cy] at q
  by_cases e:a=c
  ·rw[if_pos e] at q
   rw[beq_iff_eq.mpr e]
   exact PySem.W.kat_yes (iR (i+1) r r' (by rw[hf];simp) q)
  ·rw[if_neg e] at q
   rw[beq_eq_false_iff_ne.mpr e]
   refine PySem.W.kat_no ?_
   by_cases i0:(true && i == 0)=true
   ·rw[i0]
    exact oneLt_int q
   ·rw[yI.mpr i0,oneLt'_eq]
    simp only[uN,if_false]
    refine sP (HT.l8 _ _ a t c u prog w _ _ ?_)
    exact uM q
theorem fH {h:Heap}:∀{vs:List sJ},(∀v∈vs,∃ns,cE h v ns/\ns≠[])->∃fs,PySem.W.KatTups h vs fs/\fs.length=vs.length/\∀f∈fs,∃i t,f = .int i t
 | [],_=>⟨[],trivial,rfl,λf hf=>by cases hf⟩
 | v :: vs,hv=>by
  obtain ⟨fs,t,l,hf⟩:=fH λu hu=>hv u (tS _ hu)
  obtain ⟨ns,⟨p,o,xs,n,rfl,e,c,d,r⟩,ne⟩:=hv v ur
  have hx:∃i t,xs[0]? = some (.int i t):=by
   rw[<- tq]
   generalize xs.toList=l at r
   cases r with
   | nil=>exact absurd rfl ne
   | cons i t r=>exact ⟨i,t,rfl⟩
  obtain ⟨i,t',hx⟩:=hx
  exact ⟨.int i t' :: fs,zE e c d hx t,by rw[tY,tY,l],λf hf'=>by
   rcases tG.mp hf' with q | q
   ·exact ⟨i,t',q⟩
   ·exact hf f q⟩
theorem hJ {vs:List sJ}(hv:∀v∈vs,∃ns,cE s.heap v ns/\ns≠[]):fi prog w s vs lexOrd (cD s.heap):=by
 refine ⟨λh2 A h6 k6=>⟨tuples' true,λQ E q =>?_,⟨λE st x y Q hk hx hy q =>?_⟩⟩⟩
 ·obtain ⟨fs,t,l,hf⟩:=fH (h:=h6) (vs:=vs) λv hv'=>by
   obtain ⟨ns,i,ne⟩:=hv v hv'
   exact ⟨ns,i.keeps k6,ne⟩
  refine PySem.W.kat_kind (T :=.type "int") t (by omega) (λf hf' =>?_) rfl q
  obtain ⟨i,t',rfl⟩:=hf f hf'
  exact zC rfl
 ·obtain ⟨ns,i1,_⟩:=hv _ hx.2
  obtain ⟨ms,i2,_⟩:=hv _ hy.2
  have q':Q (some (HT.lexLt (cD s.heap x.1) (cD s.heap y.1))) st:=q
  rw[i1.ints,i2.ints] at q'
  obtain ⟨p1,o1,xs1,n1,e1,g1,c1,d1,r1⟩:=i1.keeps k6
  obtain ⟨p2,o2,xs2,n2,e2,g2,c2,d2,r2⟩:=i2.keeps k6
  rw[lt'_eq]
  refine sR (xv ?_)
  rw[hk,e1,e2]
  have l1:=r1.length
  have l2:=r2.length
  refine sR (xK (yD (PySem.W.kat_lt g1 d1 g2 d2 (iR 0 r1 r2 ?_ ⟨rfl,?_⟩))))
  ·rw[<- l1, <- l2,sU,sU]
  ·exact sZ q'
end
end Srt
namespace L2
open PySem PySem.Spec PyProof.Rows
theorem jC {α β:Type}{f:α -> β}:∀{l:List β} {m:List α},l.Perm (m.map f)->∃m':List α,m'.Perm m/\l=m'.map f:=by
 intro l m h
 generalize hk:m.map f=k at h
 induction h generalizing m with
 | nil =>
  have:m=[]:=List.map_eq_nil_iff.mp hk
  exact ⟨[],by rw[this],rfl⟩
 | cons x _ ih =>
  match m,hk with
  | y :: m,hk =>
   rw[ug] at hk
   injection hk with h1 h2
   obtain ⟨m',p,e⟩:=ih h2
   exact ⟨y :: m',p.cons y,by rw[ug, <- e,h1]⟩
  | [],hk=>cases hk
 | swap x y l =>
  match m,hk with
  | a :: b :: m,hk =>
   rw[ug,ug] at hk
   injection hk with h1 h2
   injection h2 with h2 h3
   exact ⟨b :: a :: m,List.Perm.swap a b m,by rw[ug,ug,h1,h2,h3]⟩
  | [],hk=>cases hk
  | [_],hk=>simp at hk
 | trans _ _ ih1 ih2 =>
  obtain ⟨m',p,e⟩:=ih2 hk
  obtain ⟨m'',p',e'⟩:=ih1 e.symm
  exact ⟨m'',p'.trans p,e'⟩
theorem dQ:∀{ns:List Int} {us:List sJ},Vals (ns.map V.int) us->v5 us ns:=λr=>intsAre_of r
theorem hU:∀{us:List sJ} {ns:List Int},v5 us ns->Vals (ns.map V.int) us:=λr=>eA r
theorem gD:∀{us:List sJ},(∀u∈us,∃i t,u=vY i t)->v5 us (us.map Srt.intOf)
 | [],_ =>.nil
 | u :: us,h=>by
  obtain ⟨i,t,e⟩:=h u ur
  subst e
  exact .cons i t (gD λv hv=>h v (tS _ hv))
theorem gE:∀{α:Type} {f:α -> Addr} {ps:List α} {us:List sJ},Vals (ps.map λx=>V.ref (f x)) us->us=ps.map λx=>tH (f x)
 | _,_,[],_,r=>by cases r;rfl
 | _,f,p :: ps,_,r=>by
  cases r with
  | cons h t=>rw[ug, <- gE t,show _=tH (f p) from h]
theorem gF {α:Type}{f:α -> Addr}:∀{ps:List α},Vals (ps.map λx=>V.ref (f x)) (ps.map λx=>tH (f x))
 | [] =>.nil
 | p :: ps =>.cons rfl gF
section
variable  {X:Cx}
theorem Inv.iS {pins:List (Addr×Obj)}{σ:St}{H:Hp}{s:sL}{p:Addr}{ys:List V}(I:Inv X pins σ H s)(h:SqL X.K H p ys\/SqT X.K H p ys) :
  ∃(its:List sJ) (o:Obj) (n:Nat),Vals ys its/\s.heap.get? p=some o/\(o.cls = .type "list" \/ o.cls = .type "tuple")/\o.data = .seq its.toArray n/\ys.length<=sM:=by
 rcases h with h | h
 ·obtain ⟨its,r,⟨o,n,e,c,_,d⟩,z⟩:=I.list h
  exact ⟨its,o,n,r,e,.inl c,d,z⟩
 ·obtain ⟨its,r,⟨o,e,c,n,d⟩,z⟩:=I.tuple h
  exact ⟨its,o,n,r,e,.inr c,d,z⟩
theorem Inv.newList {pins:List (Addr×Obj)}{σ:St}{H:Hp}{s:sL}{h':Heap}{p:Addr}{ys:List V}{its:List sJ}{n:Nat}(I:Inv X pins σ H s)(k:∀b o,s.heap.get? b=some o->h'.get? b=some o)(hp:s.heap.objs.size<=p)
  (e:h'.get? p=some { cls :=.type "list",data :=.seq its.toArray n }) (r:Vals ys its) (hz:ys.length<=sM):Inv X pins σ (upd H p (.lst ys)) { s with heap:=h' } :=
 I.laid (t':=s.toks) k hp ⟨hz,its,n,r,e⟩
theorem hV:bS X (.builtin "sorted") (λxs H Q=>∃(p:Addr) (ts:List (Addr×List Int)),xs=[.ref p]/\(SqL X.K H p (ts.map λt =>.ref t.1)\/SqT X.K H p (ts.map λt =>.ref t.1))/\(∀t∈ts,SqT X.K H t.1 (t.2.map V.int)/\t.2≠[]) ∧
  ∀(l:Addr) (out:List (Addr×List Int)),H l=none->out.Perm ts->out.Pairwise (λa b=>HT.lexLt b.2 a.2=false)->Q (.ref l) (upd H l (.lst (out.map λt =>.ref t.1)))):=by
 intro pins s σ H xs us Q I r h
 obtain ⟨p,ts,rfl,hs,ht,q⟩:=h
 obtain ⟨u,rfl,ru⟩:=vals1 r
 cases (show u=tH p from ru)
 obtain ⟨its,o,n,rv,e,c,d,z⟩:=I.iS hs
 have ei:=gE rv
 have lz:its.length<=sM:=by rw[<- rv.length];exact z
 have tup:∀t∈ts,Srt.cE s.heap (tH t.1) t.2:=λt hm=>by
  obtain ⟨jts,jr,⟨jo,je,jc,jn,jd⟩,_⟩:=I.tuple (ht t hm).1
  exact ⟨t.1,jo,_,jn,rfl,je,jc,jd,by simpa using dQ jr⟩
 have hv:∀v∈its,∃ns,Srt.cE s.heap v ns/\ns≠[]:=λv hv=>by
  rw[ei] at hv
  obtain ⟨t,hm,rfl⟩:=xj.mp hv
  exact ⟨t.2,tup t hm,(ht t hm).2⟩
 refine Srt.jB (Srt.dO e c d lz) lz (Srt.hJ hv) λh' l out m k hl el pm ps =>?_
 rw[ei] at pm
 obtain ⟨out',pm',rfl⟩:=jC pm
 refine ⟨.ref l,_,I.newList k hl el gF (by rw[t7,pm'.length_eq, <- t7 (f:=λt:Addr×List Int=>V.ref t.1)];exact z),rfl,q l _ (I.hok.fresh hl) pm' ?_⟩
 refine (wq.mp ps).imp_of_mem λ{a b} ha hb le =>?_
 have le':HT.lexLt (Srt.cD s.heap (tH b.1)) (Srt.cD s.heap (tH a.1))=false:=le
 rw[(tup a (pm'.mem_iff.mp ha)).ints,(tup b (pm'.mem_iff.mp hb)).ints] at le'
 exact le'
end
open PySem PySem.Spec PyProof.Rows
def SB (r:Addr)(H H':Hp):Prop:=∀b u,b≠r->H b=some u->H' b=some u
theorem SB.trans {r:Addr}{H H1 H2:Hp}(a:SB r H H1)(b:SB r H1 H2):SB r H H2:=λc u n h=>b c u n (a c u n h)
theorem aB.sb {r:Addr}{H H':Hp}(a:aB H H'):SB r H H':=λc u _ h=>a c u h
theorem SB.put {r:Addr}{H:Hp}(o:HO):SB r H (upd H r o):=λc u n h=>by rw[ai n];exact h
theorem SB.new {r p:Addr}{H:Hp}(h:H p=none)(o:HO):SB r H (upd H p o):=aB.sb (af h o)
def Lf (r:Addr)(H:Hp):Prop:=∃n:Int,H r=some (.lst [.int n])
theorem Lf.same {r:Addr}{H H':Hp}(a:Lf r H)(s:aB H H'):Lf r H':=by obtain ⟨n,e⟩:=a;exact ⟨n,s _ _ e⟩
theorem Lf.ne {r b:Addr}{H:Hp}(a:Lf r H)(h:H b=none):b≠r:=by
 obtain ⟨n,e⟩:=a
 exact vf (aj e h)
theorem Lf.neT {r b:Addr}{H:Hp}{xs:List V}(a:Lf r H)(h:H b=some (.tup xs)):b≠r:=by
 obtain ⟨n,e⟩:=a
 exact lS h e (by intro z;cases z)
def Tp (H H':Hp):Prop:=∀b xs,H b=some (.tup xs)->H' b=some (.tup xs)
theorem aB.tp {H H':Hp}(a:aB H H'):Tp H H':=λc u h=>a c _ h
theorem SB.tp {r:Addr}{H H':Hp}(a:SB r H H')(l:Lf r H):Tp H H':=λc u h=>a c _ (l.neT h) h
def mnI (a b:Int):Int:=if b<a then b else a
def mxI (a b:Int):Int:=if b>a then b else a
def nrm (a b:Int):List Int:=[mnI a b,mxI a b]
open PySem PySem.Spec PyProof.Rows
section
variable  {X:Cx}
theorem eU:∀{its:List sJ} {ns:List Int},v5 its ns->∃xs:List (Int×Tok),its=xs.map (λp=>vY p.1 p.2)/\xs.map (·.1)=ns
 | _,_,.nil=>⟨[],rfl,rfl⟩
 | _,_,.cons n t r=>by
  obtain ⟨xs,e1,e2⟩:=eU r
  exact ⟨(n,t) :: xs,by rw[ug, <- e1],by rw[ug,e2]⟩
end
open PySem PySem.Spec PyProof.Rows
section
variable  {κ:Type}[DecidableEq κ]
def putK (kvs:List (κ×V))(k:κ)(v:V):List (κ×V) :=
 if (kvs.any λkv=>decide (kv.1=k))=true then kvs.map (λkv=>if kv.1=k then (kv.1,v) else kv) else kvs++[(k,v)]
theorem iT (kvs:List (κ×V))(k:κ)(v:V):(putK kvs k v).length<=kvs.length+1:=by
 unfold putK
 split
 ·rw[t7];omega
 ·rw[tw,tY,vK];omega
theorem KV.any {kvs:List (κ×V)}{vs:List (κ×sJ)}(r:KV kvs vs)(k:κ):(kvs.any λkv=>decide (kv.1=k))=vs.any λkv=>decide (kv.1=k):=by
 unfold KV at r
 induction r with
 | nil=>rfl
 | cons h t ih=>rw[zA,zA,ih,h.1]
theorem KV.repl {kvs:List (κ×V)}{vs:List (κ×sJ)}(r:KV kvs vs)(k:κ){y:V}{u:sJ}(ry:RelV y u) :
  KV (kvs.map λkv=>if kv.1=k then (kv.1,y) else kv) (vs.map λkv=>if kv.1=k then (kv.1,u) else kv):=by
 unfold KV at r ⊢
 induction r with
 | nil=>exact .nil
 | @cons p q ps qs h t ih =>
  rw[ug,ug]
  refine .cons ?_ ih
  obtain ⟨h1,h2⟩:=h
  by_cases e:p.1=k
  ·rw[if_pos e,if_pos (h1.symm.trans e)];exact ⟨h1,ry⟩
  ·rw[if_neg e,if_neg (λz=>e (h1.trans z))];exact ⟨h1,h2⟩
theorem KV.put {kvs:List (κ×V)}{vs:List (κ×sJ)}(r:KV kvs vs)(k:κ){y:V}{u:sJ}(ry:RelV y u):KV (putK kvs k y) (stored vs k u):=by
 unfold putK stored
 rw[r.any k]
 by_cases e:(vs.any λkv=>decide (kv.1=k))=true
 ·rw[if_pos e,if_pos e];exact r.repl k ry
 ·rw[if_neg e,if_neg e];exact Paired.snoc r ⟨rfl,ry⟩
end
theorem rW {P:tj}{w:ud}{k:Key}{u:sJ}(r:RelV (kV k) u):(bN P w).is k u=true:=by
 cases k with
 | inl i=>obtain ⟨t,e⟩:=(show ∃t,u=vY i t from r);subst e;exact iI P w i t
 | inr x=>obtain ⟨t,e⟩:=(show ∃t,u=Value.str x t from r);subst e;exact iJ P w x t
section
variable  {P:tj}{w:ud}{H:Hp}{h:Heap}{a:Addr}
theorem rX {u:HO}(ok:HOk P w H h)(e:Rd H a u):aQ P w H h a u:=e.ok ok
theorem rY {kvs:List (Key×V)}(ok:HOk P w H h)(e:Rd H a (.dK kvs)):kvs.length<=sM/\(a == sysModules)=false/\∃vs,KV kvs vs/\h.DictOf (bN P w) a vs :=
 show aQ P w H h a (.dK kvs) from rX ok e
theorem rZ {kvs:List (Key×V)}(ok:HOk P w H h)(e:H a=some (.dK kvs)):kvs.length<=sM/\(a == sysModules)=false/\∃vs,KV kvs vs/\h.DictOf (bN P w) a vs:=rY ok (.inl e)
end
section
variable  {X:Cx}{pins:List (Addr×Obj)}{σ:St}{H:Hp}{s:sL}{a:Addr}{y v:V}{u r:sJ}{o:Option V}{A:ue}{E:sJ->sL->Prop}
theorem Inv.big (I:Inv X pins σ H s):sysModules<s.heap.objs.size:=by
 have h:tF<s.heap.objs.size:=(I.mod.glob.keeps I.bk).lt
 exact Nat.lt_trans (by decide) h
theorem oB {h':Heap}{t':Nat}{ob:HO}(I:Inv X pins σ H s)(mu:Mut (H a))(hs:Heap.SameBut a s.heap h')(he:∃q,h'.get? a=some q)(new:aQ X.prog X.w (upd H a ob) h' a ob) :
  Inv X pins σ (upd H a ob) { s with heap:=h',toks:=t' } :=
 I.write (x:=a) (e:=a) mu (.inl rfl) (λb q hb z=>(hs.2 b hb).trans z) he new
theorem qC {P:tj}{w:ud}{H':Hp}{h':Heap}{kvs:List (Key×V)}{vs:List (Key×sJ)}(z:kvs.length<=sM)(hd:(a == sysModules)=false)(rel:KV kvs vs)(dd:h'.DictOf (bN P w) a vs) :
  aQ P w H' h' a (.dK kvs):=⟨z,hd,vs,rel,dd⟩
end
section
variable  {X:Cx}{pins:List (Addr×Obj)}{σ:St}{H:Hp}{s:sL}{a:Addr}{kvs:List (Key×V)}{k:Key}{u:sJ}{A:ue}{E:sJ->sL->Prop}
end
section
variable  {X:Cx}{o i e value:Expr}{pos pos' tpos:Pos}{td ty tv:TE}
end
theorem iU {P:tj}{w:ud}{H:Hp}(h:Heap)(hb:sysModules<h.objs.size):aQ P w H (h.push { cls :=.type "dict",data :=.dict #[] }) h.objs.size (.dK []) :=
 ⟨uz _,beq_eq_false_iff_ne.mpr (vf (tW hb)),[],.nil,Heap.DictOf.new h⟩
def qD:TE:=λ_ H Q=>∀p,H p=none->Q (.ref p) (upd H p (.dK []))
section
variable  {X:Cx}{pos:Pos}
theorem mE:PE X (.Dict [] [] pos) qD:=λpins s σ H Q I h =>
 wpAny_Dict_empty ⟨.ref s.heap.objs.size,_,I.laid (a:=s.heap.objs.size) (o :=.dK []) (t':=s.toks) (λ_ _ q=>sN _ q) (sS _) (iU s.heap I.big),rfl,h _ (I.hok.fresh (sS _))⟩
end
def jD:List (TE×TE)->St->Hp->(List (V×V)->Hp->Prop)->Prop
 | [],_,H,Q=>Q [] H
 | (tk,tv) :: r,σ,H,Q=>tk σ H λx H1=>tv σ H1 λy H2=>jD r σ H2 λps H3=>Q ((x,y) :: ps) H3
abbrev VV:List (V×V)->List (sJ×sJ)->Prop:=Paired λp q=>RelV p.1 q.1/\RelV p.2 q.2
def PPs (X:Cx)(pos:Pos)(keys:List (Option Expr))(values:List Expr)(trs:List (TE×TE)):Prop :=
 ∀(pins:List (Addr×Obj)) (s:sL) (σ:St) (H:Hp) (Q:List (V×V)->Hp->Prop),Inv X pins σ H s->jD trs σ H Q →
  tP (tN X.prog X.w) X.A (evalPairs (pairTrees keys values X.env pos)) (λvs s'=>∃ps H',Inv X pins σ H' s'/\VV ps vs/\Q ps H') X.xe s
theorem oE {X:Cx}{pos:Pos}:PPs X pos [] [] []:=λpins s σ H Q I h=>pairTrees_nil_walk ⟨[],H,I,.nil,h⟩
theorem mF {X:Cx}{pos:Pos}{k v:Expr}{ks:List (Option Expr)}{vs:List Expr}{tk tv:TE}{trs:List (TE×TE)}(hk:PE X k tk)(hv:PE X v tv)(hr:PPs X pos ks vs trs) :
  PPs X pos (some k :: ks) (v :: vs) ((tk,tv) :: trs):=λpins s σ H Q I h =>
 pairTrees_cons_walk (thn (hk pins s σ H _ I h) λu s1 ⟨x,H1,I1,rx,q1⟩=>thn (hv pins s1 σ H1 _ I1 q1) λw2 s2 ⟨y,H2,I2,ry,q2⟩ =>
  thn (hr pins s2 σ H2 _ I2 q2) λws s3 ⟨ps,H3,I3,rel,q3⟩=>⟨(x,y) :: ps,H3,I3,.cons ⟨rx,ry⟩ rel,q3⟩)
def cF (kvs more:List (Key×V)):List (Key×V):=more.foldl (λacc kv=>putK acc kv.1 kv.2) kvs
theorem KV.merge:∀{more:List (Key×V)} {rs:List (Key×sJ)} {kvs:List (Key×V)} {vs:List (Key×sJ)},KV more rs->KV kvs vs->KV (cF kvs more) (merged vs rs):=by
 intro more rs kvs vs r
 unfold KV at r
 induction r generalizing kvs vs with
 | nil=>intro q;exact q
 | @cons p q ps qs h t ih =>
  intro r0
  have e:KV (putK kvs p.1 p.2) (stored vs q.1 q.2):=by
   have:=r0.put p.1 h.2
   rw[<- h.1];exact this
  exact ih e
theorem dg:∀(more kvs:List (Key×V)),(cF kvs more).length<=kvs.length+more.length
 | [],kvs=>by show kvs.length<=kvs.length+0;omega
 | p :: r,kvs=>by
  have h1:=dg r (putK kvs p.1 p.2)
  have h2:=iT kvs p.1 p.2
  show (cF (putK kvs p.1 p.2) r).length<=_
  rw[tY];omega
theorem fJ {P:tj}{w:ud}:∀{kvs:List (Key×V)} {ws:List (sJ×sJ)},VV (kvs.map λkv=>(kV kv.1,kv.2)) ws->∃rs,Carries (bN P w) ws rs/\KV kvs rs
 | [],_,r=>by rw[yN] at r;cases r;exact ⟨[],True.intro,.nil⟩
 | p :: kvs,_,r=>by
  rw[ug] at r
  cases r with
  | @cons a b as bs h t =>
   obtain ⟨rs,c,q⟩:=fJ (P:=P) (w:=w) t
   obtain ⟨b1,b2⟩:=b
   exact ⟨(p.1,b2) :: rs,⟨rW h.1,rfl,c⟩,.cons ⟨rfl,h.2⟩ q⟩
def r6 (trs:List (TE×TE)):TE:=λσ H Q=>∀p,H p=none->jD trs σ (upd H p (.dK [])) λps H2=>H2 p=some (.dK [])/\∃kvs:List (Key×V),ps=kvs.map (λkv=>(kV kv.1,kv.2))/\kvs.length<=15/\Q (.ref p) (upd H2 p (.dK (cF [] kvs)))
theorem oF {X:Cx}{pos:Pos}{keys:List (Option Expr)}{values:List Expr}{trs:List (TE×TE)}(h:PPs X pos keys values trs)(hall:keys.all (·.isSome)=true)(hl:keys.length=values.length)(h0:keys≠[])
  (h15:keys.length<=15):PE X (.Dict keys values pos) (r6 trs):=by
 intro pins s σ H Q I q
 have hn:=I.hok.fresh (sS s.heap.objs.size)
 have I1:=I.laid (a:=s.heap.objs.size) (o :=.dK []) (h':=s.heap.push { cls :=.type "dict",data :=.dict #[] }) (t':=s.toks) (λ_ _ q=>sN _ q) (sS _) (iU s.heap I.big)
 refine wpAny_Dict_walk (knd:=bN X.prog X.w) hall hl h0 h15 (thn (h pins _ σ _ _ I1 (q _ hn)) λws s2 ⟨ps,H2,I2,rel,e,kvs,ep,lk,q2⟩ =>?_)
 subst ep
 obtain ⟨rs,c,rk⟩:=fJ (P:=X.prog) (w:=X.w) rel
 obtain ⟨z,hd,vs0,r0,dd⟩:=rZ I2.hok e
 cases r0
 refine ⟨rs,c,dd,λh' dd' hs=>⟨.ref s.heap.objs.size,_,?_,rfl,q2⟩⟩
 have hz:(cF [] kvs).length<=sM:=by
  have h1:=dg kvs []
  rw[vK] at h1
  rw[y8];omega
 have he:∃q,h'.get? s.heap.objs.size=some q:=let ⟨q,_,_,hq,_⟩:=dd';⟨q,hq⟩
 exact oB I2 (by rw[e];exact True.intro) hs he (qC hz hd (rk.merge .nil) dd')
section
variable  {X:Cx}{pins:List (Addr×Obj)}{σ:St}{H:Hp}{s:sL}{a:Addr}{y d:V}{u r:sJ}{o:Option V}{A:ue}{E:sJ->sL->Prop}
end
section
variable  {X:Cx}{o e f:Expr}{apos cpos:Pos}{td ty tx:TE}
end
section
variable  {X:Cx}{pins:List (Addr×Obj)}{σ:St}{H:Hp}{s:sL}{a:Addr}{kvs:List (Key×V)}{A:ue}{E:sJ->sL->Prop}
end
section
variable  {X:Cx}{pins:List (Addr×Obj)}{σ:St}{H:Hp}{s:sL}{a:Addr}{y:V}{u:sJ}{A:ue}{E:sJ->sL->Prop}
end
open PySem PySem.Spec PyProof.Rows
section
variable  {X:Cx}
end
section
variable  {κ:Type}[DecidableEq κ]
end
open PySem PyProof.Rows
section
variable  {X:Cx}
def qF (ns ms:List Int)(j:Nat):Bool:=ns.getD j 0 == ms.getD j 0
theorem mG {ns ms:List Int}(h:ns.length=ms.length):((wL ns.length).all λj=>qF ns ms j)=decide (ns=ms):=by
 rw[wa,decide_eq_true_iff,vn]
 constructor
 ·intro hh
  refine List.ext_getElem h λj h1 h2 =>?_
  have:=hh j (xn.mpr h1)
  unfold qF at this
  rw[uI,uI,tE h1,tE h2] at this
  exact of_decide_eq_true (by simpa using this)
 ·rintro rfl j _
  exact beq_self_eq_true _
theorem intAt {ns:List Int}{us:List sJ}(r:Vals (ns.map V.int) us){j:Nat}(h:j<us.toArray.size):∃t,us.toArray[j] = .int (ns.getD j 0) t:=by
 have l:=r.length
 rw[t7] at l
 rw[sO] at h
 have e1:(ns.map V.int)[j]? = some (.int (ns.getD j 0)):=by
  rw[vS,uI,tE (by omega)]
  rfl
 obtain ⟨u,g1,q1⟩:=r.get e1
 have f1:us.toArray[j]=u:=by simp[sQ] at g1;obtain ⟨_,g⟩:=g1;simpa using g
 rw[f1]
 exact q1
end
end L2
namespace HT
open PySem PySem.Spec PyProof.Rows
section
variable  {prog:tj}{w:ud}{A:ue}{R:Result->sL->Prop}{I:Addr}{fp wr:List Addr}{n:Nat}{P:Nat->sJ->Prop}{St:Nat->Heap->Prop}{kw:List (Str×sJ)}
end
section
variable  {prog:tj}{w:ud}{A:ue}{E:sJ->sL->Prop}{s:sL}{l:Addr}{xs:Array (Int×Tok)}
end
end HT
namespace L2
open PySem PyProof.Rows
section
variable  {X:Cx}{x:Str}{id:String}{e:Expr}{es:List Expr}{kws:List Keyword}{p pos:Pos}{t tk:TA}{ks:List Str}{r:List V->List V->Hp->VK->Prop}
end
open PySem PyProof.Rows
section
variable  {X:Cx}
theorem qG {ns:List Int}{j:Nat}(h:j<ns.length):ns.getD j 0∈ns:=by
 rw[uI,tE h]
 exact xO h
theorem qH {ns:List Int}{a:Int}(h:a∈ns):∃j,j<ns.length/\ns.getD j 0=a:=by
 obtain ⟨j,hj,e⟩:=List.getElem_of_mem h
 exact ⟨j,hj,by rw[uI,tE hj];exact e⟩
end
open PySem PySem.Spec PyProof.Rows
section
variable  {X:Cx}
theorem lF (hc:X.calm=true):bS X (.builtin "min") (λxs H Q=>∃(a:Addr) (ns:List Int),xs=[.ref a]/\SqL X.K H a (ns.map V.int)/\ns≠[]/\∀M:Int,M∈ns->(∀b∈ns,M<=b)->Q (.int M) H):=by
 intro pins s σ H xs us Q I r h
 obtain ⟨a,ns,rfl,hS,hne,q⟩:=h
 obtain ⟨u,rfl,ru⟩:=vals1 r
 cases (show u=tH a from ru)
 obtain ⟨its,r1,p1,_⟩:=I.list hS
 obtain ⟨ps,e2,e3⟩:=eU (intsAre_of r1)
 have ei:its.toArray=intItems ps.toArray:=by rw[e2];simp[intItems]
 have hl:s.heap.IsList a (intItems ps.toArray):=by rw[<- ei];exact p1.isList
 have hz:ps.toArray.size=ns.length:=by rw[sO, <- e3,t7]
 have hp:0<ns.length:=vj.mpr hne
 have ht:ps.toArray.toList.map (·.1)=ns:=e3
 refine min_intList (I.ok.hd hc) hl (by omega) λv h' tk hv k =>?_
 rw[hz] at hv
 obtain ⟨t,rfl⟩:=intItems_at hv
 obtain ⟨h1,h2⟩:=argBest_lt (numAt ps.toArray) (ns.length-1)
 refine ⟨.int _,H,I.kept k,⟨_,rfl⟩,q _ ?_ λb hb =>?_⟩
 ·rw[zB,ht];exact qG (by omega)
 ·obtain ⟨j,hj,rfl⟩:=qH hb
  have:=h2 j (by omega)
  rw[zB,zB,ht] at this
  rw[zB,ht]
  exact this
def EqS (K:sI)(H:Hp):Nat->V->V->Prop
 | 0,x,y=>(∃i,x = .int i/\y = .int i)\/(∃i,x = .str i/\y = .str i)\/∃a,x = .ref a/\y = .ref a
 | n+1,x,y=>(∃i,x = .int i/\y = .int i)\/(∃i,x = .str i/\y = .str i)\/(∃a,x = .ref a/\y = .ref a)\/∃a b xs ys,x = .ref a/\y = .ref b/\((SqT K H a xs/\SqT K H b ys)\/(SqL K H a xs/\SqL K H b ys))/\Paired (EqS K H n) xs ys
theorem eC {K:sI}{H:Hp}{n:Nat}{s:sL}{A:ue}{xs ys:List V}{us vs:List sJ}(p:Paired (EqS K H n) xs ys)(r1:Vals xs us)(r2:Vals ys vs)
  (ih:∀x y u v,EqS K H n x y->RelV x u->RelV y v->yf A s u v true):∀j (h1:j<us.toArray.size) (h2:j<vs.toArray.size),yf A s us.toArray[j] vs.toArray[j] true:=λj h1 h2=>by
 rw[sO] at h1 h2
 have l1:=r1.length
 have l2:=r2.length
 have e1:xs[j]? = some xs[j]:=tE (by omega)
 have e2:ys[j]? = some ys[j]:=tE (by omega)
 obtain ⟨u,g1,q1⟩:=r1.get e1
 obtain ⟨v,g2,q2⟩:=r2.get e2
 have f1:us.toArray[j]=u:=by simp[sQ] at g1;obtain ⟨_,g⟩:=g1;simpa using g
 have f2:vs.toArray[j]=v:=by simp[sQ] at g2;obtain ⟨_,g⟩:=g2;simpa using g
 rw[f1,f2]
 exact ih _ _ u v (bM p e1 e2) q1 q2
theorem dR {A:ue}{s:sL}{x y:V}{u v:sJ}(h:(∃i,x = .int i/\y = .int i)\/(∃i,x = .str i/\y = .str i)\/∃a,x = .ref a/\y = .ref a)(ru:RelV x u)(rv:RelV y v):yf A s u v true:=by
 rcases h with ⟨i,rfl,rfl⟩ | ⟨i,rfl,rfl⟩ | ⟨a,rfl,rfl⟩
 ·obtain ⟨t,rfl⟩:=(show ∃t,u=vY i t from ru)
  obtain ⟨t',rfl⟩:=(show ∃t,v=vY i t from rv)
  have:=yx (A:=A) (s:=s) i t i t'
  rw[beq_self_eq_true] at this
  exact this
 ·obtain ⟨t,rfl⟩:=(show ∃t,u=Value.str i t from ru)
  obtain ⟨t',rfl⟩:=(show ∃t,v=Value.str i t from rv)
  have:=SeqAt.EqAt.str_str (A:=A) (s:=s) i t i t'
  rw[show (i == i)=true by simp] at this
  exact this
 ·cases (show u=tH a from ru)
  cases (show v=tH a from rv)
  exact yZ _
theorem mH {pins:List (Addr×Obj)}{σ:St}{H:Hp}{s:sL}(I:Inv X pins σ H s):∀(n:Nat) (A:ue) (x y:V) (u v:sJ),A.units+n<cLine->EqS X.K H n x y->RelV x u->RelV y v->yf A s u v true
 | 0,A,x,y,u,v,_,h,ru,rv=>dR h ru rv
 | n+1,A,x,y,u,v,hA,h,ru,rv=>by
  rcases h with h | h | h | ⟨a,b,xs,ys,rfl,rfl,hs,p⟩
  ·exact dR (.inl h) ru rv
  ·exact dR (.inr (.inl h)) ru rv
  ·exact dR (.inr (.inr h)) ru rv
  ·cases (show u=tH a from ru)
   cases (show v=tH b from rv)
   by_cases hab:a=b
   ·subst hab;exact yZ _
   refine SeqAt.EqAt.of_refs hab ?_
   have ih:∀x y u v,EqS X.K H n x y->RelV x u->RelV y v->yf A.in1 s u v true:=λx y u v h1 h2 h3=>mH I n A.in1 x y u v (by show A.units+1+n<cLine;omega) h1 h2 h3
   have pl:=v8 p
   rcases hs with ⟨h1,h2⟩ | ⟨h1,h2⟩
   ·obtain ⟨its,r1,p1,_⟩:=I.tuple h1
    obtain ⟨its2,r2,p2,_⟩:=I.tuple h2
    have q:=SeqAt.RcAt.tuples (e:=λ_=>true) (show s.heap.IsTuple a its.toArray from p1) (show s.heap.IsTuple b its2.toArray from p2) (by omega) (eC p r1 r2 ih)
    have ez:its.toArray.size=its2.toArray.size:=by rw[sO,sO, <- r1.length, <- r2.length,pl]
    rw[all_true,ez,beq_self_eq_true] at q
    exact q
   ·obtain ⟨its,r1,p1,_⟩:=I.list h1
    obtain ⟨its2,r2,p2,_⟩:=I.list h2
    have q:=SeqAt.RcAt.lists (e:=λ_=>true) p1.isList p2.isList (by rw[sO,sO, <- r1.length, <- r2.length,pl]) (by omega) (eC p r1 r2 ih)
    rw[all_true] at q
    exact q
end
end L2
namespace L2.RvT
open PySem PyProof.Rows
open Sem (wp)
theorem lG:Slot "reversed" "__init__" "object.__init__" :=
 .of (owner := "object") (n := "__init__") (by rw[typeLookup_type,builtinLookup_eq_fast];kernel_rfl) (by decide +kernel) (by decide +kernel) (by decide +kernel)
  (by first | exact .inl (by decide +kernel) | exact .inr (by decide +kernel)) (by rw[isSubtype_type];kernel_rfl)
theorem called:TypeCalled "reversed" "reversed.__new__" "object.__init__" :=
 ⟨by decide +kernel,by decide +kernel,⟨_,_,yi⟩,madeBy_type yi PySem.F.lookup_reversed_new (by decide +kernel),by decide +kernel,by rw[isSubtype_type];kernel_rfl,lG⟩
section
variable  {prog:tj}{w:ud}{A:ue}{E:sJ->sL->Prop}{s:sL}
end
section
variable  {prog:tj}{w:ud}{A:ue}{E:sJ->sL->Prop}{s:sL}
end
end L2.RvT
namespace L2
open PySem PySem.Spec PyProof.Rows
section
variable  {X:Cx}
theorem oG {k:Nat}(hr:bD k X.A):OpR X (uW .Eq) (λx y H Q=>∃(a b:Addr) (ns ms:List Int),x = .ref a/\y = .ref b/\SqL X.K H a (ns.map V.int)/\SqL X.K H b (ms.map V.int)/\Q (.bl (decide (ns=ms))) H):=by
 intro pins s σ H x y v u Q I rx ry h
 obtain ⟨a,b,ns,ms,rfl,rfl,h1,h2,q⟩:=h
 cases (show v=tH a from rx)
 cases (show u=tH b from ry)
 obtain ⟨its,r1,⟨⟨c1,d1,da1,sl1⟩,n1,e1,k1,_,k3⟩,_⟩:=I.list h1
 obtain ⟨its2,r2,⟨⟨c2,d2,da2,sl2⟩,n2,e2,g1,_,g3⟩,_⟩:=I.list h2
 simp only at k1 k3 g1 g3
 subst k1 k3 g1 g3
 have l1:=r1.length
 have l2:=r2.length
 rw[t7] at l1 l2
 have hu:=hr.un
 have hu1:X.A.units<cLine:=by omega
 by_cases hl:ns.length=ms.length
 ·refine xV (op :=.Eq) ⟨_,e1,rfl⟩ ⟨_,e2,rfl⟩ F.slot_list_eq y3 (yV _ _) (SeqAt.list_eqAt a b its.toArray its2.toArray n1 n2 d1 d2 sl1 sl2 (by rw[sO,sO];omega) (qF ns ms)) ⟨e1,e2,?_,?_⟩ hu1
  ·intro j h1 h2
   obtain ⟨t1,g1⟩:=intAt r1 h1
   obtain ⟨t2,g2⟩:=intAt r2 h2
   rw[g1,g2]
   exact yx _ t1 _ t2
  ·have ez:its.toArray.size=ns.length:=by rw[sO];omega
   rw[ez,mG hl]
   exact ⟨(λz=>nomatch z),⟨.bl _,H,I,rfl,q⟩⟩
 ·have ne:ns≠ms:=λz=>hl (by rw[z])
  rw[decide_eq_false ne] at q
  refine xV (op :=.Eq) ⟨_,e1,rfl⟩ ⟨_,e2,rfl⟩ F.slot_list_eq y3 (yV _ _) (SeqAt.list_eq_lengthsAt a b its.toArray its2.toArray n1 n2 d1 d2 sl1 sl2 (by simp;omega)) ⟨e1,e2,?_⟩ hu1
  exact ⟨(λz=>nomatch z),⟨.bl false,H,I,rfl,q⟩⟩
end
open PySem PySem.Spec PyProof.Rows
section
variable  {X:Cx}
theorem boolsOf:∀{bs:List Bool} {its:List sJ},Vals (bs.map V.bl) its->its=bs.map Value.bool
 | [],_,.nil=>rfl
 | b :: bs,_,.cons r t=>by rw[boolsOf t];cases (show _=Value.bool b from r);rfl
theorem lH:MtR X "list.count" (λx vs H Q=>∃(p:Addr) (bs:List Bool) (k:Bool),x = .ref p/\vs=[.bl k]/\H p=some (.lst (bs.map V.bl))/\Q (.int (bs.count k:Nat)) H):=by
 intro pins s σ H x vs v us Q I rx rv h
 obtain ⟨p,bs,k,rfl,rfl,hp,q⟩:=h
 cases rx
 obtain ⟨u,rfl,ru⟩:=vals1 rv
 cases (show u=Value.bool k from ru)
 obtain ⟨z,its,n,r,e1⟩:=(show aQ X.prog X.w H s.heap p (.lst _) from I.hok p _ hp)
 have ei:=boolsOf r
 subst ei
 refine ye xI ⟨_,e1,rfl⟩ PySem.F.entry_list_count (PySem.F.args_list_count_2 _ _) (SeqAt.list_countAt p _ n _ _ (.bool k) (isBoolOf k)) ⟨e1,λy hy =>?_,?_⟩
 ·have hy':y∈bs.map Value.bool:=by simpa using hy
  obtain ⟨b,_,rfl⟩:=xj.mp hy'
  exact SeqAt.EqAt.bool_bool b k
 ·have:(bs.map Value.bool).toArray.toList.countP (isBoolOf k)=bs.count k:=by
   rw[show (bs.map Value.bool).toArray.toList=bs.map Value.bool from rfl,List.countP_map]
   rfl
  rw[this]
  exact ⟨.int _,H,I.tok _,⟨_,rfl⟩,q⟩
end
open PySem PySem.Spec PySem.W PyProof.Rows
theorem aQ.ex {P:tj}{w:ud}{H:Hp}{h:Heap}{a:Addr}{o:HO}(x:aQ P w H h a o):∃u,h.get? a=some u:=by
 cases o with
 | lst xs=>obtain ⟨_,_,_,_,e⟩:=x;exact ⟨_,e⟩
 | tup xs=>obtain ⟨_,_,_,_,e,_⟩:=x;exact ⟨_,e⟩
 | dK kvs=>obtain ⟨_,_,_,_,o,_,_,e,_⟩:=x;exact ⟨_,e⟩
 | dT kvs=>obtain ⟨_,_,_,_,o,_,_,e,_⟩:=x;exact ⟨_,e⟩
 | set S n=>obtain ⟨o,_,_,_,e,_⟩:=x;exact ⟨_,e⟩
 | ins C dx fs=>obtain ⟨_,_,_,e,_⟩:=x;exact ⟨_,e⟩
 | own y=>obtain ⟨_,e⟩:=x;exact ⟨_,e⟩
 | xd fs=>obtain ⟨_,⟨_,_,_,e,_⟩,_⟩:=x;exact ⟨_,e⟩
 | rng lo hi=>obtain ⟨_,_,_,e⟩:=x;exact ⟨_,e⟩
 | frz ob u=>obtain ⟨e,_⟩:=x;exact ⟨_,e⟩
 | tbl ps=>exact ⟨_,show h.get? a=some _ from x⟩
 | met f y=>exact ⟨_,show h.get? a=some _ from x⟩
 | ext φ=>obtain ⟨_,⟨_,e⟩,_⟩:=x;exact ⟨_,e⟩
theorem HOk.noth {P:tj}{w:ud}{H:Hp}{h:Heap}{a:Addr}(x:HOk P w H h)(e:h.get? a=none):H a=none:=by
 cases q:H a with
 | none=>rfl
 | some o =>
  obtain ⟨u,z⟩:=(x a o q).ex
  rw[e] at z;cases z
theorem HOk.hide {P:tj}{w:ud}{H:Hp}{h:Heap}{l:List Addr}(x:HOk P w H h)(n:∀b∈l,H b=none):HOk P w H (hideAll h l):=λa o e =>
 (x a o e).bT (λb u hb q=>vR _ q λm=>by
  have z:=n b m
  rcases hb with rfl | hb
  ·rw[e] at z;cases z
  ·rw[hb] at z;cases z) (λ_ q=>q) λ_ _ q=>q
structure Fly (P:tj)(w:ud)(outer:List Env)(H H':Hp)(h:Heap)(B:Heap)(ea:Addr)(cls a0:sJ)(h':Heap):Prop where
 fl:Heap.FlyingW B outer ea cls a0 h'
 un:Un (frs outer) [] H H' h h'
 ok:HOk P w H' B
 cov:∀b o,h.get? b=some o->H b=none->b∉frs outer->B.get? b=some o
 all:∀b o,h.get? b=some o->b∉frs outer->∃u,B.get? b=some u
section
variable  {P:tj}{w:ud}{outer:List Env}{H H':Hp}{h B h' h2:Heap}{ea:Addr}{cls a0:sJ}
theorem Fly.no (F:Fly P w outer H H' h B ea cls a0 h'):H' ea=none:=F.ok.noth F.fl.2.1
theorem Fly.hok (F:Fly P w outer H H' h B ea cls a0 h'):HOk P w H' h':=F.ok.kept F.fl.1
theorem Fly.new (F:Fly P w outer H H' h B ea cls a0 h'):h.get? ea=none:=by
 cases q:h.get? ea with
 | none=>rfl
 | some o =>
  by_cases m:ea∈frs outer
  ·obtain ⟨_,o',ho',hd⟩:=F.fl.2.2.1.mem m
   obtain ⟨oe,vs,he,_,hde,_⟩:=F.fl.first
   rw[he] at ho';cases ho'
   exact absurd hde (hd vs)
  ·obtain ⟨u,z⟩:=F.all ea o q m
   rw[F.fl.2.1] at z;cases z
theorem Fly.step {l:List Env}(F:Fly P w outer H H' h B ea cls a0 h')(f2:Heap.FlyingW B l ea cls a0 h2)(hs:∀b∈frs outer,∀o,h'.get? b=some o->∃sl,h2.get? b=some { o with slots:=sl }):Un (frs outer) [] H H' h h2 where
 keep:=λb o q n m _=>f2.1 _ _ (F.cov b o q n m)
 slot:=λb o q n m x=>by
  obtain ⟨sl,e⟩:=F.un.slot b o q n m x
  obtain ⟨sl',e'⟩:=hs b m _ e
  exact ⟨sl',e'⟩
 free:=F.un.free
 there:=λb o q x=>by
  by_cases m:b∈frs outer
  ·obtain ⟨o',e⟩:=F.un.there b o q x
   obtain ⟨sl',e'⟩:=hs b m _ e
   exact ⟨_,e'⟩
  ·obtain ⟨u,e⟩:=F.all b o q m
   exact ⟨u,f2.1 _ _ e⟩
 tups:=F.un.tups
 frzs:=F.un.frzs
 tbls:=F.un.tbls
theorem Fly.slots (F:Fly P w outer H H' h B ea cls a0 h')(k:h'.UpToSlots h2):∀b∈frs outer,∀o,h'.get? b=some o->∃sl,h2.get? b=some { o with slots:=sl }:=λb m o e=>by
 obtain ⟨_,o',ho',hd⟩:=F.fl.2.2.1.mem m
 rw[e] at ho';cases ho'
 exact k b o e hd
theorem Fly.on (F:Fly P w outer H H' h B ea cls a0 h')(f2:Heap.FlyingW B outer ea cls a0 h2)(k:h'.UpToSlots h2):Fly P w outer H H' h B ea cls a0 h2 :=
 ⟨f2,F.step f2 (F.slots k),F.ok,F.cov,F.all⟩
end
section
variable  {X:Cx}{pins:List (Addr×Obj)}{σ:St}{H H':Hp}{s:sL}{B h':Heap}{ea:Addr}{cls a0:sJ}
theorem Inv.land {s':sL}(I:Inv X pins σ H s)(os:s'.os=s.os)(g:AllBare s'.gens)(F:Fly X.prog X.w X.stack H H' s.heap B ea cls a0 s'.heap):Inv X pins σ H' s' :=
 I.o6 os F.un F.hok g (λb z=>absurd z (by simp))
theorem Fly.out (I:Inv X pins σ H s)(hst:X.stack=X.env :: X.outer)(hfr:X.env.frame=some X.env.locals)(hex:X.ex=[])(F:Fly X.prog X.w X.stack H H' s.heap B ea cls a0 h')(f2:Heap.FlyingW B X.outer ea cls a0 h2)(k:h'.UpToSlots h2) :
  Fly X.prog X.w X.outer X.H₀ H' X.s₀.heap B ea cls a0 h2:=by
 have nL:∀b o,X.s₀.heap.get? b=some o->b≠X.env.locals:=λb o q z=>absurd (sT (sV q) (z ▸ I.ok.above)) (ux _)
 have nst:∀b,b∉X.fs->b≠X.env.locals->b∉frs X.stack:=λb n1 n2 m=>by
  rw[hst] at m
  unfold frs at m
  rw[uF,hfr] at m
  rcases tG.mp m with z | z
  ·exact n2 z
  ·exact n1 z
 have ust:=F.step f2 (F.slots k)
 have sub:∀b∈X.fs,b∈frs X.stack:=λb m=>by
  rw[hst];unfold frs;rw[uF,hfr];exact tS _ m
 have nx:∀b,b∉X.ex:=λb m=>by rw[hex] at m;cases m
 refine ⟨f2,⟨λb o q n m _ =>?_,λb o q n m _ =>?_,λb o q n _ =>?_,λb o q _ =>?_,λb xs q=>F.un.tups b xs (I.base.tups b xs q),λb o u q=>F.un.frzs b o u (I.base.frzs b o u q),λb ps q =>?_⟩,F.ok,λb o q n m =>?_,λb o q m =>?_⟩
 ·exact ust.keep b o (I.base.keep b o q n m (nx b)) (I.base.free b o q n (nx b)) (nst b m (nL b o q)) (by simp)
 ·obtain ⟨sl,e⟩:=I.base.slot b o q n m (nx b)
  obtain ⟨sl',e'⟩:=ust.slot b _ e (I.base.free b o q n (nx b)) (sub b m) (by simp)
  exact ⟨sl',e'⟩
 ·obtain ⟨o',e⟩:=I.base.there b o q (nx b)
  exact F.un.free b o' e (I.base.free b o q n (nx b)) (by simp)
 ·obtain ⟨o',e⟩:=I.base.there b o q (nx b)
  exact ust.there b o' e (by simp)
 ·obtain ⟨m1,e1⟩:=I.base.tbls b ps q
  obtain ⟨m2,e2⟩:=F.un.tbls b _ e1
  exact ⟨m1++m2,by rw[e2,xc]⟩
 ·exact F.cov b o (I.base.keep b o q n m (nx b)) (I.base.free b o q n (nx b)) (nst b m (nL b o q))
 ·obtain ⟨o',e⟩:=I.base.there b o q (nx b)
  exact F.all b o' e (nst b m (nL b o q))
theorem Fly.pass {M:Model}{E:sJ->sL->Prop}{Q:Unit->sL->Prop}{s':sL}(I:Inv X pins σ H s)(hst:X.stack=X.env :: X.outer)(hfr:X.env.frame=some X.env.locals)(hex:X.ex=[])
  (F:Fly X.prog X.w X.stack H H' s.heap B ea cls a0 s'.heap) (hQ:∀h2,Fly X.prog X.w X.outer X.H₀ H' X.s₀.heap B ea cls a0 h2->Q () { s' with heap:=h2 }):tP M X.A (leaving X.env (.ref ea)) Q E s':=by
 have fl:=F.fl
 rw[hst] at fl
 exact wpAny_leaves_onW (by rw[I.ok.frames,hst]) hfr fl λh2 f2 k=>hQ h2 (Fly.out I hst hfr hex F f2 k)
theorem Fly.made {M:Model}{E:sJ->sL->Prop}{Q:Unit->sL->Prop}{s':sL}{vs:List sJ}(I:Inv X pins σ H s)(hst:X.stack=X.env :: X.outer)(hfr:X.env.frame=some X.env.locals)(hex:X.ex=[])
  (hx:Heap.MadeExcOf s.heap s'.heap ea cls vs) (hQ:∀h2 B a0,Fly X.prog X.w X.outer X.H₀ H X.s₀.heap B ea cls a0 h2->Q () { s' with heap:=h2 }):tP M X.A (leaving X.env (.ref ea)) Q E s':=by
 have ff:=I.stack
 have hin:∀env∈X.stack,∀b,env.frame=some b->b∈frs X.stack:=λenv he b hb=>v9.mpr ⟨env,he,hb⟩
 have ff':=funFrames_hide ff hin
 have fh:∀b∈frs X.stack,H b=none:=I.fb
 have F0:∀h2 t,Heap.FlyingW (hideAll s.heap (frs X.stack)) X.outer ea cls (.ref t) h2->s'.heap.UpToSlots h2->Fly X.prog X.w X.outer X.H₀ H X.s₀.heap (hideAll s.heap (frs X.stack)) ea cls (.ref t) h2:=λh2 t f2 k=>by
  have nL:∀b o,X.s₀.heap.get? b=some o->b≠X.env.locals:=λb o q z=>absurd (sT (sV q) (z ▸ I.ok.above)) (ux _)
  have nst:∀b,b∉X.fs->b≠X.env.locals->b∉frs X.stack:=λb n1 n2 m=>by
   rw[hst] at m
   unfold frs at m
   rw[uF,hfr] at m
   rcases tG.mp m with z | z
   ·exact n2 z
   ·exact n1 z
  have sub:∀b∈X.fs,b∈frs X.stack:=λb m=>by
   rw[hst];unfold frs;rw[uF,hfr];exact tS _ m
  have nx:∀b,b∉X.ex:=λb m=>by rw[hex] at m;cases m
  have sl:∀b∈frs X.stack,∀o,s.heap.get? b=some o->∃sl,h2.get? b=some { o with slots:=sl }:=λb m o e=>by
   obtain ⟨_,o',ho',hd⟩:=ff.mem m
   rw[e] at ho';cases ho'
   exact k b o (hx.keeps _ _ e) hd
  refine ⟨f2,⟨λb o q n m _ =>?_,λb o q n m _ =>?_,λb o q n _=>I.base.free b o q n (nx b),λb o q _ =>?_,I.base.tups,I.base.frzs,I.base.tbls⟩,I.hok.hide fh,λb o q n m =>?_,λb o q m =>?_⟩
  ·exact f2.1 _ _ (vR _ (I.base.keep b o q n m (nx b)) (nst b m (nL b o q)))
  ·obtain ⟨s1,e⟩:=I.base.slot b o q n m (nx b)
   obtain ⟨s2,e'⟩:=sl b (sub b m) _ e
   exact ⟨s2,e'⟩
  ·obtain ⟨o',e⟩:=I.base.there b o q (nx b)
   by_cases m:b∈frs X.stack
   ·obtain ⟨s2,e'⟩:=sl b m _ e
    exact ⟨_,e'⟩
   ·exact ⟨o',f2.1 _ _ (vR _ e m)⟩
  ·exact vR _ (I.base.keep b o q n m (nx b)) (nst b m (nL b o q))
  ·obtain ⟨o',e⟩:=I.base.there b o q (nx b)
   exact ⟨o',vR _ e (nst b m (nL b o q))⟩
 rw[hst] at ff'
 refine wpAny_leaves_madeW (base:=hideAll s.heap (frs (X.env :: X.outer))) (by rw[I.ok.frames,hst]) hfr (λb o q=>of_hideAll _ q) ff' hx λh2 t f2 _ _ k =>?_
 rw[<- hst] at f2
 exact hQ h2 _ _ (F0 h2 t f2 k)
end
open PySem PySem.Spec PySem.W PyProof.Rows
section
variable  {P:tj}{w:ud}{K:sI}{mg:Str->Option sJ}{base:Heap}{N:List Str}{qual:Str}{sc:Scope}{f:Addr}{cdv:sJ}{A:ue}{outer:List Env}{s₀:sL}{H₀:Hp}{E:XK}
def r9 (X:Cx)(E:XK):Prop:=∀(pins:List (Addr×Obj)) (σ:St) (H:Hp) (s:sL) (h':Heap) (ea:Addr) (cls:sJ) (vs:List sJ),Inv X pins σ H s->Heap.MadeExcOf s.heap h' ea cls vs->E cls none H->X.xe (.ref ea) { s with heap:=h' }
end
abbrev bA:List sJ:=[.type "ValueError",.type "Exception",.type "BaseException",.type "object"]
structure ExC (K:sI)(mg:Str->Option sJ)(x:Str)(C:Addr):Prop where
 ex:excIn K C bA "ValueError.__new__" = true
 mg:mg x=some (.ref C)
theorem mI {K:sI}{h:Heap}{C:Addr}{bs:List sJ}{nid:String}(X:K.In h)(q:excIn K C bs nid=true) :
  ∃bm N nm q bs' hd sn sub ab col dd k0 k1 k2 k3 k5 mN,h.get? C=some (excClassObj nm q C N bs' bm hd sn sub ab col dd k0 k1 k2 k3 k5 nid)/\h.Ns N mN/\mN "__init__" = none/\OwnTail h bs bm:=by
 unfold excIn at q
 split at q
 ·rename_i d1 c1 sl1 l1
  split at q
  ·rename_i C1 b1 j0 j1 j2 j3 n1 j5 m1 s1
   simp only[uo,beq_iff_eq,yJ] at q
   obtain ⟨⟨⟨⟨⟨rfl,rfl⟩,q1⟩,q2⟩,q3⟩,q4⟩:=q
   obtain ⟨a1,a2,a3,a4,a5,a6,a7,a8,a9,a10,a11⟩:=c1
   dsimp only at m1 q1 q3 q4
   subst m1 q1
   obtain ⟨ll⟩:=sl1
   simp only at s1
   subst s1
   exact ⟨b1,a4,a1,a5,a2,a6,a7,a8,a9,a10,d1,j0,j1,j2,j3,j5,_,X _ _ l1,.of_isNs (isNs_of_in X q3),nsMap_none_of_in X q3 q4,yL X q2⟩
  ·cases q
 ·cases q
def qI (E:XK)(cls:sJ)(t:TA):TS:=λ_ σ H=>t σ H λvs H1=>vs.length<=sM/\E cls none H1
theorem mJ {X:Cx}{E:XK}{C:Addr}{x:Str}{e:Expr}{es:List Expr}{t:TA}{np cpos pos:Pos}(O:r9 X E)(hc:ExC X.K X.mg x C)(hh:X.A.handled=none)(hg:Gl X x)(ha:PA X (e :: es) t)
  (hdb:(x == ("__debug__" : Str))=false:=by decide) (he:tU (e :: es) X.env=(false,eval e X.env) :: tU es X.env:=by rfl) (hpl:(vV cpos (tU es X.env)).any (·.1)=false:=by rfl) :
  PS X (.Raise (some (.Call (.Name x np) (e :: es) [] cpos)) none pos) (qI E (.ref C) t):=by
 intro pins s σ H D I h
 obtain ⟨bm,N,nm,q,bs',hd,sn,sub,ab,col,dd,k0,k1,k2,k3,k5,mN,hC,hN,hni,T⟩:=mI I.mod.kin hc.ex
 have hpl':(vV cpos (tU (e :: es) X.env)).any (·.1)=false:=by
  rw[he]
  show (false || (vV cpos (tU es X.env)).any (·.1))=false
  rw[hpl];rfl
 refine wpAny_Raise_call_subT (nm:=nm) (q:=q) (N:=N) (bs:=bs') (bm:=bm) (hdct:=hd) (sn:=sn) (sub:=sub) (ab:=ab) (col:=col) (dd:=dd) (k0:=k0) (k1:=k1) (k2:=k2) (k3:=k3) (k5:=k5) (mN:=mN)
  uE (T.hasType uE.hasBase) hh hpl' hni (bU I hg hc.mg ⟨rfl,?_⟩ hdb)
 have hs:=ha cpos pins s σ H _ I h
 rw[he] at hs ⊢
 refine wF (uw hs (λus s2 ⟨vs,H1,I1,r,z,qE⟩=>⟨rfl,by rw[<- r.length];exact z,I1.bk _ _ hC,hN.keeps I1.bk,T.keeps I1.bk,λh' ea hx=>O pins σ H1 s2 h' ea _ _ I1 hx qE⟩) λ_ _ y=>y)
open PySem PySem.Spec PySem.W PyProof.Rows
abbrev Cx.mark (X:Cx)(ea:Addr):Cx:={ X with A:=X.A.mark (some (.ref ea)),calm:=false,xe:=λ_ _=>False }
section
variable  {X:Cx}{pins:List (Addr×Obj)}{σ:St}{H H':Hp}{s s':sL}{B h':Heap}{ea:Addr}{cls a0:sJ}
theorem Inv.mark (I:Inv X pins σ H s)(ea:Addr):Inv (X.mark ea) pins σ H s :=
 ⟨⟨I.ok.mod,I.ok.kind,I.ok.glob,I.ok.blt,I.ok.above,I.ok.inj,I.ok.has,I.ok.cab,(λz=>Bool.noConfusion z),I.ok.frames,I.ok.stk,I.ok.exf,I.ok.bs,I.ok.bsz,I.ok.noex,I.ok.exfs,I.ok.funs,I.ok.frf⟩,I.os,I.bare,I.base,I.loc,I.cell,I.free,I.freeC,I.pin,I.hok,I.len⟩
theorem Inv.unmark (ok:X.Ok)(I:Inv (X.mark ea) pins σ H s):Inv X pins σ H s:=⟨ok,I.os,I.bare,I.base,I.loc,I.cell,I.free,I.freeC,I.pin,I.hok,I.len⟩
theorem Inv.gone {i:Nat}{x:Str}{m:Str->Option sJ}{v:Option sJ}{tk:Nat}(I:Inv X pins σ H s)(hN:X.N.Nodup)(hi:X.N[i]? = some x)(hn:s.heap.Ns X.env.locals m)(hl:∀(j:Nat) (y:Str) (v:V),X.N[j]? = some y->σ[j]? = some (some v)->Vis X.env.scope y->∃u,RelV v u/\Look X.env s.heap m y u)
  (hn':h'.Ns X.env.locals (λy=>if y=x then v else m y)) (hs:Heap.SameBut X.env.locals s.heap h'):Inv X pins (σ.set i none) H { s with heap:=h',toks:=tk }:=by
 obtain ⟨oL,_,_,hoL,_⟩:=id hn
 have cne:=I.cne
 have lt:∀b o,X.s₀.heap.get? b=some o->b≠X.env.locals:=λb o e=>tW (sT (sV e) I.ok.above)
 refine ⟨I.ok,I.os,I.bare,⟨λb o e n hb hx =>?_,λb o e n hb hx =>?_,I.base.free,λb o e hx =>?_,I.base.tups,I.base.frzs,I.base.tbls⟩,⟨_,hn',λj y v' e1 e2 e3 =>?_⟩,λy c e =>?_,I.free,I.freeC,λp hp =>?_,λb ob e =>?_,by simpa using I.len⟩
 ·exact (hs.2 b (lt b o e)).trans (I.base.keep b o e n hb hx)
 ·obtain ⟨sl,e1⟩:=I.base.slot b o e n hb hx
  exact ⟨sl,(hs.2 b (lt b o e)).trans e1⟩
 ·obtain ⟨o',e1⟩:=I.base.there b o e hx
  exact ⟨o',(hs.2 b (lt b o e)).trans e1⟩
 ·by_cases hj:j=i
  ·subst hj
   have:j<σ.length:=by rw[I.len];exact (sQ.mp hi).1
   rw[vG this] at e2
   cases e2
  ·rw[wD (vf hj)] at e2
   obtain ⟨u',r',q⟩:=hl j y v' e1 e2 e3
   refine ⟨u',r',?_⟩
   rcases q with ⟨k,e⟩ | ⟨k,c,e,z⟩
   ·have:y≠x:=λe=>hj (ft hN e1 (e ▸ hi))
    exact .inl ⟨k,by simp[this,e]⟩
   ·exact .inr ⟨k,c,e,z.sameBut hs (cne y c e)⟩
 ·obtain ⟨w',z⟩:=I.cell y c e
  exact ⟨w',z.sameBut hs (cne y c e)⟩
 ·obtain ⟨e,n,ne,nf,d⟩:=I.pin p hp
  exact ⟨(hs.2 p.1 ne).trans e,n,ne,nf,d⟩
 ·have fr:=I.free
  refine (I.hok b ob e).bT (λc w' hc q=>(hs.2 c ?_).trans q) (λ_ q=>q) λ_ _ q=>q
  rintro rfl
  rcases hc with rfl | hc
  ·rw[fr] at e;cases e
  ·rw[fr] at hc;cases hc
end
abbrev EXt:=sJ->St->Hp->Prop
def XP (X:Cx)(pins:List (Addr×Obj))(EX:EXt)(e:sJ)(s':sL):Prop :=
 ∃σ H s ea cls a0 B H',Inv X pins σ H s/\e = .ref ea/\s'.os=s.os/\AllBare s'.gens/\Fly X.prog X.w X.stack H H' s.heap B ea cls a0 s'.heap/\EX cls σ H'
section
variable  {X:Cx}{pos:Pos}
end
open PySem PySem.Spec PySem.W PyProof.Rows
structure ExI (K:sI)(C:Addr):Prop where
 ga:findIn K (.ref C) "__getattribute__" = some (some (.builtin "BaseException.__getattribute__"))
 gt:findIn K (.ref C) "__getattr__" = some none
 cl:findIn K (.ref C) "__class__" = some (some (.builtin "object.__class__"))
 mo:subIn K (.ref C) (.type "object")=some true
 sb:subIn K (.ref C) (.type "BaseException")=some true
 it:(clsIn K C).isSome=true
section
variable  {K:sI}{prog:tj}{w:ud}{A:ue}{E:sJ->sL->Prop}{h:Heap}{g:Array GenState}{d:Drawn}{t:Nat}{os:OsState}{a C:Addr}{o:Obj}
theorem qJ {R:Result->sL->Prop}(X:K.In h)(Z:ExI K C)(hx:h.get? a=some o)(hc:o.cls = .ref C)(hq:R (.ok (.ret (.ref C))) ⟨h,g,d,t,os⟩) :
  yM (tN prog w) A (.call (.builtin "getset_descriptor.__get__") ⟨[.builtin "object.__class__",.ref a,.ref C],[]⟩) R ⟨h,g,d,t,os⟩:=by
 have hT5:(⟨h,g,d,t,os⟩:sL).TypeIs (.builtin "object.__class__") "getset_descriptor" := wy
 have L1:Looks (tN prog w) h (isSubtype (.ref C) (.type (".".intercalate ("object.__class__".cutAt '.').dropLast))) true:=by rw[F.owner_object_class];exact yq X Z.mo
 refine vt yy.plain F.entry_gs_get (yy.check _ _ _ _ _ _ _ _ hT5 (F.args_gs_get _ _ _) ?_)
 repeat (any_goals (first | assumption | (with_reducible refine t9 hx ?_;rw[hc]) | with_reducible refine L1.at ?_ | wp_step))
 refine ⟨wd _ (by decide +kernel),yc F.entry_object_class ?_⟩
 unfold Builtin.«object.__class__»
 repeat (any_goals (first | assumption | (with_reducible refine t9 hx ?_;rw[hc]) | wp_step))
theorem mK {tk:Tok}{Q:Fin->sL->Prop}(X:K.In h)(Z:ExI K C)(hx:h.get? a=some o)(hc:o.cls = .ref C)(hq:Q (.done (.ret (.ref C))) ⟨h,g,d,t,os⟩) :
  tP (tN prog w) A (Builtin.«object.__getattribute__» ⟨[.ref a,.str "__class__" tk],[]⟩) Q E ⟨h,g,d,t,os⟩:=by
 have hT5:(⟨h,g,d,t,os⟩:sL).TypeIs (.builtin "object.__class__") "getset_descriptor" := wy
 have f5:=wy
 have f6:=yy.lookup
 have f7:=F.slot_gs_set.lookup
 have L1:=vz (M:=tN prog w) X Z.cl
 repeat (any_goals (first | assumption | (with_reducible refine t9 hx ?_;rw[hc]) | with_reducible refine L1.at ?_ | wp_step))
 refine qJ X Z hx hc ?_
 repeat (any_goals (first | assumption | wp_step))
theorem iV {M:Model}{nv:sJ}{Q:Unit->sL->Prop}(X:K.In h)(Z:ExI K C)(hx:h.get? a=some o)(hc:o.cls = .ref C)(hq:Q () ⟨h,g,d,t,os⟩):tP M A (checkBuiltinCall "BaseException.__getattribute__" ⟨[.ref a,nv],[]⟩) Q E ⟨h,g,d,t,os⟩:=by
 have k1:builtinKind "BaseException.__getattribute__" = some .slot:=by decide +kernel
 have k2:splitId "BaseException.__getattribute__" = some ("BaseException", "__getattribute__"):=by decide +kernel
 have L1:=yq (M:=M) X Z.sb
 have k3:=F.args_bexc_ga (.ref a) nv
 simp only[checkBuiltinCall,k1,k2]
 refine sP ?_
 unfold isInstance
 repeat (first | (with_reducible refine t9 hx ?_;rw[hc]) | with_reducible refine L1.at ?_ | wp_step)
 exact hq
theorem oH {Q:Option sJ->sL->Prop}(X:K.In h)(Z:ExI K C)(hx:h.get? a=some o)(hc:o.cls = .ref C)(hq:Q (some (.ref C)) ⟨h,g,d,t+1,os⟩) :
  tP (tN prog w) A (getAttr? (.ref a) "__class__") Q E ⟨h,g,d,t,os⟩:=by
 have f3:=(vQ).ga.bind (.ref a)
 have y2:(Value.builtin "BaseException.__getattribute__" == Value.builtin "object.__getattribute__")=false:=by decide +kernel
 have y1:(onTheHeap (tH C) && Value.builtin "BaseException.__getattribute__" == Value.builtin "object.__getattribute__")=false:=by rw[y2];rfl
 have L1:=vz (M:=tN prog w) X Z.ga
 have L2:=vz (M:=tN prog w) X Z.gt
 unfold getAttr? getAttrBy?
 repeat (any_goals (first | assumption | (with_reducible refine t9 hx ?_;rw[hc]) | with_reducible refine L1.at ?_ | with_reducible refine L2.at ?_ | wp_step))
 refine vt (vQ).ga.plain y6 (iV X Z hx hc (mK X Z hx hc ?_))
 repeat (any_goals (first | assumption | wp_step))
end
open PySem PySem.Spec PySem.W PyProof.Rows
theorem fK {K:sI}{a C:Addr}(Z:ExI K C):KitX K (.ref a) (.ref C) (λh=>∃o,h.get? a=some o/\o.cls = .ref C) where
 ty:=λM h _ p=>by
  obtain ⟨o,h1,h2⟩:=p
  exact h2 ▸ (Looks.ld h1).andThen .now
 it:=λ_ _ X _=>by
  have z:=Z.it
  unfold clsIn at z
  split at z
  ·rename_i c' d' cd' sl' ho
   intro A' Q' E' s' k q
   unfold isType loadHead
   exact sP (wpAny_loadPart (k _ _ (X _ _ ho)) (tQ q))
  ·cases z
 ne:=λh tp dd its n sl X htp=>by
  have z:=Z.it
  refine yI.mpr λq =>?_
  have e:C=tp:=Value.ref.inj (beq_iff_eq.mp q)
  subst e
  unfold clsIn at z
  split at z
  ·rename_i c' d' cd' sl' ho
   have y:=(X _ _ ho).symm.trans htp
   cases y
  ·cases z
 ca:=λ{_ _ _ _ _ s} X p k=>by
  obtain ⟨h,g,d,t,os⟩:=s
  obtain ⟨o,h1,h2⟩:=p
  exact oH X Z h1 h2 k
def mL:V->sJ
 | .ref a =>.ref a
 | .ty n =>.type n
 | _ =>.none
def eV:V->Bool
 | .ref _=>true
 | .ty _=>true
 | _=>false
theorem hW {x:V}{u:sJ}(h:eV x=true)(r:RelV x u):u=mL x:=by
 cases x <;> first | exact r | cases h
section
variable  {X:Cx}
theorem iW:∀{cs:List V} {us:List sJ},(∀c∈cs,eV c=true)->Vals cs us->us=cs.map mL
 | _,_,_,.nil=>rfl
 | _,_,h,.cons r t=>by rw[ug, <- hW (h _ ur) r, <- iW (λc hc=>h c (tS _ hc)) t]
end
open PySem PySem.Spec PySem.W PyProof.Rows
def Keeps {α:Type}:Sem α -> Prop
 | .pure _=>True
 | .raise _=>True
 | .unsupported _=>True
 | .finish _=>True
 | .rule _ k=>Keeps (k ())
 | .at _ k=>Keeps (k ())
 | .load _ _ k=>∀o,Keeps (k o)
 | .update _ _ f k=>(∀o:Obj,(f o).cls=o.cls/\(f o).dict=o.dict/\(f o).isFreed=o.isFreed)/\Keeps (k ())
 | .alloc _ k=>∀a,Keeps (k a)
 | .loadIfAlive _ k=>∀o,Keeps (k o)
 | .point _ k=>Keeps (k ())
 | .register _ _=>True
 | .fresh k=>∀t,Keeps (k t)
 | .ask k=>∀t,Keeps (k t)
 | .choose _ _ k=>∀t,Keeps (k t)
 | .os _ _ k=>∀t,Keeps (k t)
 | .call _ _ _ _ _=>False
 | .handled _ k=>∀t,Keeps (k t)
 | .newGen _ k=>∀t,Keeps (k t)
 | .genState _ k=>∀t,Keeps (k t)
 | .resume _ _ _ _=>False
 | .yield _ _ _ _=>True
 | .stack k=>∀t,Keeps (k t)
 | .fork _ _=>True
 | .thread k=>∀t,Keeps (k t)
 | .await _ _ _ _ _=>True
def Kd (h h':Heap):Prop:=∀b o,h.get? b=some o->∃o',h'.get? b=some o'/\o'.cls=o.cls/\o'.dict=o.dict
theorem Kd.refl (h:Heap):Kd h h:=λb o e=>⟨o,e,rfl,rfl⟩
theorem Kd.trans {h h1 h2:Heap}(a:Kd h h1)(b:Kd h1 h2):Kd h h2:=λc o e=>by
 obtain ⟨o1,e1,c1,d1⟩:=a c o e
 obtain ⟨o2,e2,c2,d2⟩:=b c o1 e1
 exact ⟨o2,e2,c2.trans c1,d2.trans d1⟩
theorem dS {h:Heap}{a:Addr}{o:Obj}(e:h.get? a=some o):o.isFreed=false:=by
 unfold Heap.get? at e
 split at e
 ·cases e
 ·rename_i n
  obtain ⟨c,d,x,s⟩:=o
  cases x <;> first | rfl | exact absurd e (n _ _ _)
theorem Kd.update {h:Heap}{a:Addr}{f:Obj->Obj}(hf:∀o:Obj,(f o).cls=o.cls/\(f o).dict=o.dict/\(f o).isFreed=o.isFreed):Kd h (h.update a f):=λb o e=>by
 by_cases c:a=b
 ·subst c
  exact ⟨f o,vo f e ((hf o).2.2.trans (dS e)),(hf o).1,(hf o).2.1⟩
 ·exact ⟨o,by rw[wk _ _ c];exact e,rfl,rfl⟩
theorem Kd.push (h:Heap)(u:Obj):Kd h (h.push u):=λb o e=>⟨o,sN _ e,rfl,rfl⟩
theorem mM {α:Type}{M:Model}{Γ:PySem.Ctx}{t:Sem α}{Q:α -> Pos->sL->Prop}{E:sJ->Pos->sL->Prop}(K:Keeps t)(p:Pos)(s:sL)(h:Sem.wp M Γ t Q E p s) :
  Sem.wp M Γ t (λa p' s'=>Q a p' s'/\Kd s.heap s'.heap) (λe p' s'=>E e p' s'/\Kd s.heap s'.heap) p s:=by
 induction t generalizing p s with
 | pure x=>exact ⟨h,Kd.refl _⟩
 | raise v=>exact ⟨h,Kd.refl _⟩
 | unsupported _ | finish _ | yield _ _ _ _ | fork _ _ | await _ _ _ _ _ | register _ _=>exact h
 | rule _ k ih=>exact ih () K _ _ h
 | «at» _ k ih=>exact ih () K _ _ h
 | point _ k ih=>exact ih () K _ _ h
 | alloc u k ih =>
  refine Sem.wp_mono M Γ _ (λa p' s' x=>⟨x.1,(Kd.push _ u).trans x.2⟩) (λa p' s' x=>⟨x.1,(Kd.push _ u).trans x.2⟩) _ _ (ih _ (K _) _ _ h)
 | loadIfAlive _ k ih=>exact ih _ (K _) _ _ h
 | fresh k ih=>exact ih _ (K _) _ _ h
 | ask k ih=>exact ih _ (K _) _ _ h
 | os _ _ k ih=>exact ih _ (K _) _ _ h
 | handled _ k ih=>exact ih _ (K _) _ _ h
 | newGen _ k ih=>exact ih _ (K _) _ _ h
 | stack k ih=>exact ih _ (K _) _ _ h
 | thread k ih=>exact ih _ (K _) _ _ h
 | load a _ k ih =>
  obtain ⟨o,ho,h'⟩:=h
  exact ⟨o,ho,ih _ (K _) _ _ h'⟩
 | genState a k ih =>
  obtain ⟨o,ho,h'⟩:=h
  exact ⟨o,ho,ih _ (K _) _ _ h'⟩
 | update a _ f k ih =>
  obtain ⟨ho,h'⟩:=h
  exact ⟨ho,Sem.wp_mono M Γ _ (λa p' s' x=>⟨x.1,(Kd.update K.1).trans x.2⟩) (λa p' s' x=>⟨x.1,(Kd.update K.1).trans x.2⟩) _ _ (ih _ K.2 _ _ h')⟩
 | choose _ _ k ih =>
  obtain ⟨ho,h'⟩:=h
  exact ⟨ho,ih _ (K _) _ _ h'⟩
 | call c h' g l k ih=>exact K.elim
 | resume g r l k ih=>exact K.elim
theorem bP {α:Type}{M:Model}{A:ue}{t:Sem α}{Q:α -> sL->Prop}{E:sJ->sL->Prop}{s:sL}(K:Keeps t)(h:tP M A t Q E s) :
  tP M A t (λa s'=>Q a s'/\Kd s.heap s'.heap) (λe s'=>E e s'/\Kd s.heap s'.heap) s:=λΓ p hΓ=>mM K p s (h Γ p hΓ)
theorem Keeps.bind {α β:Type}{m:Sem α}{f:α -> Sem β}(hm:Keeps m)(hf:∀a,Keeps (f a)):Keeps (m >>= f):=by
 show Keeps (Sem.bind m f)
 induction m with
 | pure x=>exact hf x
 | raise v=>exact hm
 | unsupported _ | finish _ | yield _ _ _ _ | fork _ _ | await _ _ _ _ _ | register _ _=>exact True.intro
 | rule _ k ih=>exact ih () hm
 | «at» _ k ih=>exact ih () hm
 | point _ k ih=>exact ih () hm
 | alloc u k ih=>exact λa=>ih a (hm a)
 | loadIfAlive _ k ih=>exact λa=>ih a (hm a)
 | fresh k ih=>exact λa=>ih a (hm a)
 | ask k ih=>exact λa=>ih a (hm a)
 | os _ _ k ih=>exact λa=>ih a (hm a)
 | handled _ k ih=>exact λa=>ih a (hm a)
 | newGen _ k ih=>exact λa=>ih a (hm a)
 | stack k ih=>exact λa=>ih a (hm a)
 | thread k ih=>exact λa=>ih a (hm a)
 | load a _ k ih=>exact λa=>ih a (hm a)
 | genState a k ih=>exact λa=>ih a (hm a)
 | update a _ f' k ih=>exact ⟨hm.1,ih () hm.2⟩
 | choose _ _ k ih=>exact λa=>ih a (hm a)
 | call c h' g l k ih=>exact hm.elim
 | resume g r l k ih=>exact hm.elim
theorem cS (f:Array sJ->Array sJ)(o:Obj):(Obj.mapFields f o).cls=o.cls/\(Obj.mapFields f o).dict=o.dict/\(Obj.mapFields f o).isFreed=o.isFreed:=by
 obtain ⟨c,d,x,s⟩:=o
 cases x <;> exact ⟨rfl,rfl,rfl⟩
theorem fL (v:sJ):Keeps (fieldsOf v):=by
 unfold fieldsOf
 cases v with
 | ref a =>
  refine Keeps.bind (m:=load a) (λ_=>True.intro) λo =>?_
  cases o.data <;> exact True.intro
 | _=>exact True.intro
theorem cj (v:sJ)(i:Nat):Keeps (field v i):=by
 unfold field
 refine Keeps.bind (fL v) λvs =>?_
 split <;> exact True.intro
theorem dU (a:Addr)(i:Nat)(x:sJ):Keeps (updateField a i x):=by
 unfold updateField
 refine Keeps.bind (m:=load a) (λ_=>True.intro) λo =>?_
 cases o.data with
 | fields vs =>
  show Keeps (if i<vs.size then update a (Obj.mapFields (·.setIfInBounds i x)) else unsupported "internal:no-such-field")
  split
  ·exact ⟨cS _,True.intro⟩
  ·exact True.intro
 | _=>exact True.intro
theorem cb (v:sJ)(i:Nat)(x:sJ):Keeps (setField v i x):=by
 unfold setField
 cases v with
 | ref a=>exact dU a i x
 | _=>exact True.intro
theorem bR (e:sJ)(fr:Option Addr):Keeps (setFlight e fr):=by
 unfold setFlight
 refine Keeps.bind (cj e 1) λtb =>?_
 split
 ·exact cb _ _ _
 ·exact True.intro
open PySem PySem.Spec PySem.W PyProof.Rows
theorem cU:Keeps stack:=λ_=>True.intro
theorem hX:Keeps underTheClaimsCaller:=by
 unfold underTheClaimsCaller
 exact Keeps.bind cU λ_=>True.intro
theorem fM (env:Env)(outer:List Env):Keeps (behindIsImport env outer):=by
  unfold behindIsImport
  split
  · exact True.intro
  · show Keeps (if env.code == .none then pure true else do return (← field env.code 12) == .none)
    split
    · exact True.intro
    · exact Keeps.bind (cj _ _) λ_=>True.intro
theorem jE (env:Env)(i:Bool)(l:List Env):Keeps (keptBack env i l):=by
 unfold keptBack
 cases l with
 | nil =>
  show Keeps (if _ then _ else _)
  split
  ·exact True.intro
  ·exact Keeps.bind hX λ_=>True.intro
 | cons c l=>exact True.intro
theorem eX:∀l:List Env,Keeps (readyFrames l)
 | []=>True.intro
 | env :: outer=>by
  unfold readyFrames
  cases env.frame with
  | none=>exact True.intro
  | some f =>
   refine Keeps.bind (m:=load f) (λ_=>True.intro) λo =>?_
   split
   ·exact True.intro
   ·refine Keeps.bind (fM env outer) λi=>Keeps.bind (jE env i outer) λb =>?_
    exact ⟨λo=>⟨rfl,rfl,by obtain ⟨c,d,x,s⟩:=o;cases x <;> rfl⟩,eX outer⟩
theorem dW (l:List Env):Keeps (frameObject l):=by
 unfold frameObject
 cases l with
 | nil=>exact True.intro
 | cons env outer=>exact Keeps.bind (eX _) λ_=>True.intro
theorem gc (env:Env):Keeps (PySem.frameOf env):=by
 unfold PySem.frameOf frameEnvs
 refine Keeps.bind (Keeps.bind cU λ_=>True.intro) λes=>Keeps.bind (dW _) λr =>?_
 cases r <;> exact True.intro
theorem iX (f:Addr)(b:Bool):Keeps (entryPlaceOf f b):=by
 unfold entryPlaceOf
 refine Keeps.bind cU λacts =>?_
 split <;> exact True.intro
theorem eZ (ty:String)(vs:List sJ):Keeps (newFields ty vs):=by
 unfold newFields newObj newObjAsIs
 show Keeps (if _ then _ else _)
 split
 ·exact True.intro
 ·exact λa=>True.intro
theorem iY (n f l fl la:sJ)(p:List sJ):Keeps (EntryCells.newEntry n f l fl la p):=by
 unfold EntryCells.newEntry
 exact eZ _ _
theorem cN (e:sJ)(env:Env):Keeps (noteFrame e env):=by
  unfold noteFrame
  cases env.frame with
  | none=>exact True.intro
  | some f =>
    refine Keeps.bind (cj e 1) λhead =>?_
    have rest:Keeps (do setField e 1 (← EntryCells.newEntry head (← PySem.frameOf env) .none (zD f) .none (← entryPlaceOf f (head != .none)))) :=
      Keeps.bind (gc env) λa=>Keeps.bind (iX f _) λpl=>Keeps.bind (iY _ _ _ _ _ _) λb=>cb _ _ _
    show Keeps (if _ then _ else _)
    split
    · refine Keeps.bind (cj head 3) λx =>?_
      split
      · exact True.intro
      · exact Keeps.bind (cb _ _ _) λ_=>rest
    · exact rest
theorem dh (env:Env)(e:sJ):Keeps (leaving env e):=by
 unfold leaving
 exact Keeps.bind (cN e env) λ_=>bR e none
open PySem PySem.Spec PySem.W PyProof.Rows
def XD (h:Heap)(ea:Addr)(d:Option Addr):Prop:=∀dx,d=some dx->∃o,h.get? ea=some o/\o.dict=some dx
theorem XD.kd {h h':Heap}{ea:Addr}{d:Option Addr}(k:Kd h h')(x:XD h ea d):XD h' ea d:=λdx e=>by
 obtain ⟨o,a,b⟩:=x dx e
 obtain ⟨o',a',_,b'⟩:=k ea o a
 exact ⟨o',a',b'.trans b⟩
theorem XD.nil (h:Heap)(ea:Addr):XD h ea none:=λ_ e=>by cases e
def CX2 (P:tj)(w:ud):CXT:=λouter H s E e s'=>∃ea cls a0 B H' d,e = .ref ea/\s'.os=s.os/\AllBare s'.gens/\Fly P w outer H H' s.heap B ea cls a0 s'.heap/\XD s'.heap ea d/\E cls d H'
section
variable  {X:Cx}{pins:List (Addr×Obj)}{σ:St}{H H':Hp}{s:sL}{B h':Heap}{ea:Addr}{cls a0:sJ}
theorem Fly.sd {M:Model}{E:sJ->sL->Prop}{Q:Unit->sL->Prop}{s':sL}(I:Inv X pins σ H s)(hst:X.stack=X.env :: X.outer)(hfr:X.env.frame=some X.env.locals)(hex:X.ex=[])
  (F:Fly X.prog X.w X.stack H H' s.heap B ea cls a0 s'.heap) (hQ:∀h2,Fly X.prog X.w X.outer X.H₀ H' X.s₀.heap B ea cls a0 h2->Kd s'.heap h2->Q () { s' with heap:=h2 }):tP M X.A (leaving X.env (.ref ea)) Q E s':=by
 have z:=bP (dh X.env (.ref ea)) (Fly.pass (M:=M) (E:=E) (Q:=λ_ s2=>∃h2,s2={ s' with heap:=h2 }/\Fly X.prog X.w X.outer X.H₀ H' X.s₀.heap B ea cls a0 h2) I hst hfr hex F λh2 F2=>⟨h2,rfl,F2⟩)
 refine uw z (λ_ s2 y =>?_) λ_ _ y=>y.1
 obtain ⟨⟨h2,rfl,F2⟩,k⟩:=y
 exact hQ h2 F2 k
end
theorem Fun.okX2 {P:tj}{w:ud}{K:sI}{mg:Str->Option sJ}{base:Heap}{x qual:Str}{st:Stmt}{f:Addr}{fd:uh}{N ps:List Str}{k:Nat}{sp:Sp}(F:Fun K x qual st f fd)(S:aP N ps (au st))(len:∀vs H Q E,sp vs H Q E->vs.length=ps.length)
  (hb:∀(cdv:sJ) (A:ue) (outer:List Env) (s:sL) (H:Hp) (vs:List V) (Q:VK) (E:XK),bD k (A.deeper (envOfC qual (au st) s.heap.objs.size f cdv))->sp vs H Q E →
   ∃t,PSs (fz (CX2 P w) P w K mg base N qual (au st) f cdv A outer s H E) (aX st) t/\t { nx:=λ_ H'=>Q .non H',rt:=Q } (start N vs) H):aZ P w K mg base (CX2 P w) (k+1) f fd ps sp:=by
 obtain ⟨oc,od,kV,doc,pm,an,cdv,ct,osl,rfl,lk,hcd⟩:=F.ex
 exact pf lk hcd S len λA outer s H vs Q E hr hsp=>hb cdv A outer s H vs Q E hr hsp
theorem aZ.cx2 {P:tj}{w:ud}{K:sI}{mg:Str->Option sJ}{base:Heap}{k:Nat}{f:Addr}{fd:uh}{ps:List Str}{sp:Sp}(F:aZ P w K mg base CX0 k f fd ps sp):aZ P w K mg base (CX2 P w) k f fd ps sp :=
 ⟨F.len,λA outer s H args us vs Q E hr he hb hv hs=>wz (F.run A outer s H args us vs Q E hr he hb hv hs) λr s' h=>by
  cases r with
  | error e=>exact False.elim h
  | ok fl=>cases fl <;> exact h⟩
structure kg (P:tj)(w:ud)(K:sI)(mg:Str->Option sJ)(base:Heap)(k:Nat)(x:Str)(ps:List Str)(sp:Sp):Prop where
 ex:∃f fd,aZ P w K mg base (CX2 P w) k f fd ps sp/\mg x=some (.ref f)/\PySem.W.keepIn K (.ref f)=true/\Binds K fd ps []
section
variable  {P:tj}{w:ud}{K:sI}{mg:Str->Option sJ}{base:Heap}{N:List Str}{qual:Str}{sc:Scope}{f:Addr}{cdv:sJ}{A:ue}{outer:List Env}{s₀:sL}{H₀:Hp}{E:XK}
theorem pE:Passes (CX2 P w) (fz (CX2 P w) P w K mg base N qual sc f cdv A outer s₀ H₀ E) E:=λpins σ H s e s' I h=>by
 obtain ⟨ea,cls,a0,B,H2,d,rfl,os,g,F,D,q⟩:=h
 exact Fly.sd I rfl rfl rfl F λh2 F2 k=>⟨ea,cls,a0,B,H2,d,rfl,os.trans I.os,g,F2,D.kd k,q⟩
theorem se:r9 (fz (CX2 P w) P w K mg base N qual sc f cdv A outer s₀ H₀ E) E:=λpins σ H s h' ea cls vs I hx q=>by
 exact Fly.made (s':={ s with heap:=h' }) I rfl rfl rfl hx λh2 B a0 F2=>⟨ea,cls,a0,B,H,none,rfl,I.os,I.bare,F2,.nil _ _,q⟩
end
section
variable  {X:Cx}{pins:List (Addr×Obj)}{σ:St}{H H':Hp}{s s':sL}{B h':Heap}{ea:Addr}{cls a0:sJ}{d:Option Addr}
def bL (ea:Addr)(cls:sJ)(d:Option Addr):HO :=.ext λh=>∃o vs,h.get? ea=some o/\o.cls=cls/\o.data = .fields vs/\∀dx,d=some dx->o.dict=some dx
theorem HOk.qK {P:tj}{w:ud}{h:Heap}(x:HOk P w H h)(hn:H ea=none)(hc:∃o vs,h.get? ea=some o/\o.cls=cls/\o.data = .fields vs/\∀dx,d=some dx->o.dict=some dx):HOk P w (upd H ea (bL ea cls d)) h:=λb u e=>by
 by_cases z:b=ea
 ·subst z
  rw[ae] at e
  cases e
  refine ⟨hc,?_,λh1 h2 p k =>?_⟩
  ·obtain ⟨o,_,q,_⟩:=hc;exact ⟨o,q⟩
  ·obtain ⟨o,vs,q,c⟩:=p;exact ⟨o,vs,k o q,c⟩
 ·rw[ai z] at e
  exact (x b u e).bT (λ_ _ _ q=>q) (λc q=>by rw[ai (aj q hn)];exact q) λc xs q=>by rw[ai (aj q hn)];exact q
theorem Inv.qK (I0:Inv X pins σ H s)(I:Inv X pins σ H' s')(F:Fly X.prog X.w X.stack H H' s.heap B ea cls a0 s'.heap)(D:XD s'.heap ea d):Inv X pins σ (upd H' ea (bL ea cls d)) s':=by
 have nn:=F.new
 have hn:=F.no
 have ne:∀b o,s.heap.get? b=some o->b≠ea:=λb o q z=>by rw[z,nn] at q;cases q
 have nh:∀b u,H' b=some u->b≠ea:=λb u q=>aj q hn
 have hc:∃o vs,s'.heap.get? ea=some o/\o.cls=cls/\o.data = .fields vs/\∀dx,d=some dx->o.dict=some dx:=by
  obtain ⟨o,vs,a,b,dd,_⟩:=F.fl.first
  refine ⟨o,vs,a,b,dd,λdx e =>?_⟩
  obtain ⟨o',a',b'⟩:=D dx e
  rw[a] at a';cases a'
  exact b'
 refine ⟨I.ok,I.os,I.bare,⟨I.base.keep,I.base.slot,λb o q n m =>?_,I.base.there,λb xs q =>?_,λb o u q =>?_,λb ps q =>?_⟩,I.loc,I.cell,?_,λx c e =>?_,λp hp =>?_,I.hok.qK hn hc,I.len⟩
 ·obtain ⟨o',e⟩:=I0.base.there b o q m
  rw[ai (ne b o' e)];exact I.base.free b o q n m
 ·have:=I.base.tups b xs q
  rw[ai (nh b _ this)];exact this
 ·have:=I.base.frzs b o u q
  rw[ai (nh b _ this)];exact this
 ·obtain ⟨mo,this⟩:=I.base.tbls b ps q
  exact ⟨mo,by rw[ai (nh b _ this)];exact this⟩
 ·obtain ⟨m,⟨o,_,_,ho,_⟩,_⟩:=I0.loc
  rw[ai (ne _ o ho)];exact I.free
 ·obtain ⟨v,o,ho,_⟩:=I0.cell x c e
  rw[ai (ne _ o ho)];exact I.freeC x c e
 ·obtain ⟨e,n,n1,n2,d⟩:=I.pin p hp
  obtain ⟨e0,_⟩:=I0.pin p hp
  exact ⟨e,by rw[ai (ne _ _ e0)];exact n,n1,n2,d⟩
end
section
variable  {M:Model}{A:ue}{E:sJ->sL->Prop}{s:sL}
theorem oI {base:Heap}{env:Env}{outer:List Env}{L e:Addr}{cls a0:sJ}{Q:Unit->sL->Prop}
  (hfr:A.frames=some (env :: outer)) (hf:env.frame=some L) (hfl:Heap.FlyingW base (env :: outer) e cls a0 s.heap)
  (hQ:∀h',Heap.HeldW base (env :: outer) e cls a0 L h'->s.heap.UpToSlots h'->Kd s.heap h'->Q () { s with heap:=h' }):tP M A (noteFrame (.ref e) env) Q E s:=by
 refine uw (bP (cN (.ref e) env) (wpAny_looks_onW (M:=M) (E:=E) (Q:=λ_ s2=>∃h',s2={ s with heap:=h' }/\Heap.HeldW base (env :: outer) e cls a0 L h'/\s.heap.UpToSlots h') hfr hf hfl λh' a b=>⟨h',rfl,a,b⟩)) (λ_ s2 y =>?_) λ_ _ y=>y.1
 obtain ⟨⟨h2,rfl,a,b⟩,k⟩:=y
 exact hQ h2 a b k
theorem oJ {base:Heap}{l:List Env}{e L:Addr}{cls a0:sJ}{Q:Unit->sL->Prop}(hh:Heap.HeldW base l e cls a0 L s.heap)
  (hQ:∀h',Heap.FlyingW base l e cls a0 h'->s.heap.UpToSlots h'->Kd s.heap h'->Q () { s with heap:=h' }):tP M A (setFlight (.ref e) none) Q E s:=by
 refine uw (bP (bR (.ref e) none) (wpAny_landsW (M:=M) (E:=E) (Q:=λ_ s2=>∃h',s2={ s with heap:=h' }/\Heap.FlyingW base l e cls a0 h'/\s.heap.UpToSlots h') hh λh' a b=>⟨h',rfl,a,b⟩)) (λ_ s2 y =>?_) λ_ _ y=>y.1
 obtain ⟨⟨h2,rfl,a,b⟩,k⟩:=y
 exact hQ h2 a b k
theorem oK {base:Heap}{l:List Env}{e:Addr}{cls a0:sJ}{Q:Unit->sL->Prop}(hh:Heap.FlyingW base l e cls a0 s.heap)
  (hQ:∀h',Heap.FlyingW base l e cls a0 h'->s.heap.UpToSlots h'->Kd s.heap h'->Q () { s with heap:=h' }):tP M A (setFlight (.ref e) none) Q E s:=by
 refine uw (bP (bR (.ref e) none) (lands_againW (M:=M) (E:=E) (Q:=λ_ s2=>∃h',s2={ s with heap:=h' }/\Heap.FlyingW base l e cls a0 h'/\s.heap.UpToSlots h') hh λh' a b=>⟨h',rfl,a,b⟩)) (λ_ s2 y =>?_) λ_ _ y=>y.1
 obtain ⟨⟨h2,rfl,a,b⟩,k⟩:=y
 exact hQ h2 a b k
end
abbrev gf:=sJ->Option Addr->St->Hp->Prop
def XP2 (X:Cx)(pins:List (Addr×Obj))(EX:gf)(e:sJ)(s':sL):Prop :=
 ∃σ H s ea cls a0 B H' d,Inv X pins σ H s/\e = .ref ea/\s'.os=s.os/\AllBare s'.gens/\Fly X.prog X.w X.stack H H' s.heap B ea cls a0 s'.heap/\XD s'.heap ea d/\EX cls d σ H'
def sf (X:Cx)(sts:List Stmt)(t:gf->TS):Prop :=
 ∀(pins:List (Addr×Obj)) (s:sL) (σ:St) (H:Hp) (D:Ends) (EX:gf),Inv X pins σ H s->t EX D σ H->tP (tN X.prog X.w) X.A (execs sts X.env) (SP X pins D) (XP2 X pins EX) s
def sg (X:Cx)(st:Stmt)(t:gf->TS):Prop :=
 ∀(pins:List (Addr×Obj)) (s:sL) (σ:St) (H:Hp) (D:Ends) (EX:gf),Inv X pins σ H s->t EX D σ H->tP (tN X.prog X.w) X.A (exec st X.env) (SP X pins D) (XP2 X pins EX) s
section
variable  {X:Cx}{pos:Pos}
theorem oM {st:Stmt}{t:gf->TS}(h1:sg X st t):sf X [st] t:=by
 intro pins s σ H D EX I h
 refine xP (thn (h1 pins s σ H D EX I h) λf s1 q =>?_)
 cases f with
 | next=>exact we q
 | ret v=>exact q
 | brk=>exact q
 | cont=>exact q
theorem sh {k:Nat}{f:Addr}{fd:uh}{ps:List Str}{sp:Sp}{pins:List (Addr×Obj)}{σ:St}{H:Hp}{s:sL}{Q:VK}{EX:gf}{us:List sJ}{vs:List V}(F:aZ X.prog X.w X.K X.mg X.base (CX2 X.prog X.w) k f fd ps sp)(hr:bD k X.A)(hb:Binds X.K fd ps [])
  (I:Inv X pins σ H s) (r:Vals vs us) (h:sp vs H Q λcls d H'=>EX cls d σ H'):tP (tN X.prog X.w) X.A (call (.ref f) us) (EP X pins σ Q) (XP2 X pins EX) s:=by
 have hl:us.length=ps.length:=by rw[<- r.length];exact F.len _ _ _ _ h
 have hb':=hb s us I.kIn (by rw[uA];exact hl)
 rw[uA] at hb'
 refine yd (wz (F.run X.A X.stack s H ⟨us,[]⟩ us vs Q _ hr I.qa hb' r h) λr s' hq =>?_)
 cases r with
 | error e =>
  obtain ⟨ea,cls,a0,B,H2,d,rfl,os,g,F2,D,q⟩:=hq
  exact ⟨σ,H,s,ea,cls,a0,B,H2,d,I,rfl,os,g,F2,D,q⟩
 | ok fl =>
  cases fl with
  | ret u=>exact I.after hq
  | next=>exact False.elim hq
  | brk=>exact False.elim hq
  | cont=>exact False.elim hq
theorem ev_y {j k:Nat}{x:Str}{ps:List Str}{sp:Sp}{e:Expr}{es:List Expr}{t:TA}{p:Pos}{pins:List (Addr×Obj)}{σ:St}{H:Hp}{s:sL}{Q:VK}{EX:gf}(C:kg X.prog X.w X.K X.mg X.base k x ps sp)(hr:bD j X.A)(hj:k<=j)(hg:Gl X x)(ha:PA X.nox (e :: es) t)
  (hdb:(x == ("__debug__" : Str))=false) (he:tU (e :: es) X.env=(false,eval e X.env) :: tU es X.env) (hpl:(vV pos (tU es X.env)).any (·.1)=false)
  (I:Inv X pins σ H s) (h:t σ H λvs H1=>sp vs H1 Q λcls d H2=>EX cls d σ H2):tP (tN X.prog X.w) X.A (eval (.Call (.Name x p) (e :: es) [] pos) X.env) (EP X pins σ Q) (XP2 X pins EX) s:=by
 obtain ⟨f,fd,F,m,kp,b⟩:=C.ex
 refine uQ (bU I hg m ?_ hdb)
 refine vI (h₀:=X.base) I.ok.mod.kin kp (uw (ha pos pins s σ H _ (I.fv _) h) (λus s1 ⟨vs,H1,I1,r,q⟩=>⟨I1.cp.kIn,?_⟩) λ_ _ z=>False.elim z) he hpl
 exact sh F (hr.mono hj) b I1.cp r q
theorem mO {j k:Nat}{x:Str}{ps:List Str}{sp:Sp}{e:Expr}{es:List Expr}{t:TA}{p pos':Pos}(C:kg X.prog X.w X.K X.mg X.base k x ps sp)(hr:bD j X.A)(hj:k<=j)(hg:Gl X x)(ha:PA X.nox (e :: es) t)
  (hdb:(x == ("__debug__" : Str))=false:=by decide) (he:tU (e :: es) X.env=(false,eval e X.env) :: tU es X.env:=by rfl) (hpl:(vV pos (tU es X.env)).any (·.1)=false:=by rfl) (hs:swapsWith (.Call (.Name x p) (e :: es) [] pos) none pos'.line X.env=pure false:=by rfl) :
  sg X (.Expr (.Call (.Name x p) (e :: es) [] pos) pos') (λEX D σ H=>t σ H λvs H1=>sp vs H1 (λ_ H2=>D.nx σ H2) λcls d H2=>EX cls d σ H2):=by
 intro pins s σ H D EX I h
 exact wpAny_Expr_any (thn (ev_y C hr hj hg ha hdb he hpl I h) λv s1 ⟨x,H1,I1,r1,q1⟩=>⟨σ,H1,I1,q1⟩) I.quiet hs
def si (K:sI)(i:Nat)(C:sJ)(tb:gf->TS)(th:TS):TS:=λD σ H =>
 tb (λcls d σ1 H1=>exmOne K cls C=some true/\∀ea,H1 ea=none->th { nx:=λσ2 H2=>D.nx (σ2.set i none) H2,rt:=D.rt,bk:=λσ2 H2=>D.bk (σ2.set i none) H2,ct:=λσ2 H2=>D.ct (σ2.set i none) H2 } (σ1.set i (some (.ref ea))) (upd H1 ea (bL ea cls d))) D σ H
theorem oN {i:Nat}{n x:Str}{C:sJ}{body:List Stmt}{b₀:Stmt}{suite:List Stmt}{tb:gf->TS}{th:TS}{np hp:Pos}(hst:X.stack=X.env :: X.outer)(hfr:X.env.frame=some X.env.locals)
    (hN:X.N.Nodup) (hi:X.N[i]? = some n) (hx:X.env.scope.names.lookup n=some .local) (hg:Gl X x) (hm:X.mg x=some C) (hb:sf X body tb) (hs:∀ea,PSs (X.mark ea) (b₀ :: suite) th) (hdb:(x == ("__debug__" : Str))=false:=by decide) :
    PS X (.Try body [.ExceptHandler (some (.Name x np)) (some n) (b₀ :: suite) hp] [] [] pos) (si X.K i C tb th):=by
  intro pins s σ H D I h
  refine wpAny_Try_except (uw (hb pins s σ H D _ I h) (λf s1 q =>?_) λe s1 hx1 =>?_)
  · cases f with
    | next=>exact we q
    | ret v=>exact q
    | brk=>exact q
    | cont=>exact q
  obtain ⟨σ1,H1,s0,ea,cls,a0,B,H2,d,I1,rfl,os,g,F,D,hm2,q⟩:=hx1
  have fl:=F.fl
  have hfr':X.A.frames=some (X.env :: X.outer):=by rw[I1.ok.frames,hst]
  rw[hst] at fl
  refine oI hfr' hfr fl λh4 held4 k4 e4 =>?_
  refine oJ held4 λh5 f5 k5 e5 =>?_
  rw[<- hst] at f5
  have F5:=F.on f5 (k4.trans k5)
  have I5:Inv X pins σ1 H2 { s1 with heap:=h5 }:=I1.land os g F5
  refine wpAny_handleBy_cons (codeAny_handlers_test ?_) (by intro z;cases z)
  refine bU (X:=X.mark ea) (I5.mark ea) hg hm ?_ hdb
  have LT:Looks (tN X.prog X.w) h5 (typeOf (.ref ea)) cls:=by
    obtain ⟨ob,hob,hc⟩:=f5.there
    subst hc
    exact (Looks.ld hob).andThen .now
  refine (exm_one (M:=tN X.prog X.w) I5.kIn LT hm2).here ?_
  refine codeAny_handlers_suite_as ?_
  refine oK f5 λh6 f6 k6 e6 =>?_
  have F6:=F5.on f6 k6
  have I6:Inv X pins σ1 H2 { s1 with heap:=h6 }:=I1.land os g F6
  have I7:=I1.qK I6 F6 (d:=d) (((D.kd e4).kd e5).kd e6)
  refine fu (v :=.ref ea) I7 hN hi (.inl hx) rfl (λs7 I8 =>?_) (.inr hx)
  have cls0:(X.env.scope.kind == .class || (X.env.scope.kind == .module && X.env.locals != X.env.globals))=false:=by rw[I.ok.kind];rfl
  have go:∀{σ2:St} {H3:Hp} {s8:sL} {Q:Unit->sL->Prop} {E:sJ->sL->Prop},Inv (X.mark ea) pins σ2 H3 s8->(∀s9,Inv X pins (σ2.set i none) H3 s9->Q () s9)->tP (tN X.prog X.w) X.A (do bindName X.env n .none;unbindBehindTheSuite X.env n hp) Q E s8:=λ{σ2 H3 s8 Q E} J hQ=>by
    have J':Inv X pins σ2 H3 s8:=J.unmark I.ok
    obtain ⟨m,hn,hl⟩:=J'.loc
    exact wpAny_nameGoes_keeps hx hn cls0 λh9 v hn9 hs9=>hQ _ (J'.gone hN hi hn hl hn9 hs9)
  refine uw (hs ea pins s7 _ _ _ (I8.mark ea) (q ea F.no)) (λf s8 r =>?_) λ_ _ z=>False.elim z
  cases f with
  | next =>
    obtain ⟨σ2,H3,J,r⟩:=r
    exact go J λs9 J9=>⟨_,H3,J9,r⟩
  | brk =>
    obtain ⟨σ2,H3,J,r⟩:=r
    exact go J λs9 J9=>⟨_,H3,J9,r⟩
  | cont =>
    obtain ⟨σ2,H3,J,r⟩:=r
    exact go J λs9 J9=>⟨_,H3,J9,r⟩
  | ret u =>
    obtain ⟨v,σ2,H3,J,rv,r⟩:=r
    exact go J λs9 J9=>⟨v,_,H3,J9,rv,r⟩
end
open PySem PySem.Spec PySem.W PyProof.Rows
theorem iZ {h:Heap}{bmB tl:List sJ}(T:OwnTail h bmB tl)(self:sJ)(what:Str):refuseLoop self what tl=refuseLoop self what bmB:=by
 induction T with
 | base=>rfl
 | own _ _ _ _ ih=>rw[refuseLoop_ref];exact ih
structure ExS (K:sI)(C:Addr)(f:Str):Prop where
 sa:findIn K (.ref C) "__setattr__" = some (some (.builtin "object.__setattr__"))
 na:findIn K (.ref C) f=some none
 mo:subIn K (.ref C) (.type "object")=some true
section
variable  {K:sI}{prog:tj}{w:ud}{A:ue}{E:sJ->sL->Prop}{h:Heap}{g:Array GenState}{d:Drawn}{t:Nat}{os:OsState}{x C:Addr}{o:Obj}
variable  {nm q:Str}{N:Addr}{bs bm:List sJ}{sn:List Str}{sub:List sJ}{ab:Bool}{col:Option Bool}{dd:Option Addr}{k0 k1 k2 k3 k5:Option sJ}{newId:String}{name:Str}{v:sJ}
theorem mP {M:Model}{nv:sJ}{Q:Unit->sL->Prop}(X:K.In h)(Z:ExS K C name)(hx:h.get? x=some o)(hc:o.cls = .ref C)(k:Q () ⟨h,g,d,t,os⟩):tP M A (checkBuiltinCall "object.__setattr__" ⟨[.ref x,nv,v],[]⟩) Q E ⟨h,g,d,t,os⟩:=by
 have k1:=u7.kind
 have k2:=u7.split
 have L1:=yq (M:=M) X Z.mo
 have ha:=u7.args (.ref x) nv v
 simp only[checkBuiltinCall,k1,k2]
 refine sP ?_
 unfold isInstance
 repeat (first | (with_reducible refine t9 hx ?_;rw[hc]) | with_reducible refine L1.at ?_ | wp_step)
 exact k
theorem mQ {tk:Tok}{Q:Fin->sL->Prop}(X:K.In h)(Z:ExS K C name)(hC:h.get? C=some (excClassObj nm q C N bs bm true sn sub ab col dd k0 k1 k2 k3 k5 newId))(T:OwnTail h bA bm)(hx:h.get? x=some o)(hc:o.cls = .ref C)(hd:o.dict=none)(hnc:∀c,o.data ≠ .cls c)
  (hq:∀h' tk',h'.get? x=some { o with dict:=some h.objs.size }->h'.Ns1 h.objs.size (λy=>if y=name then some v else none)->(∀b u,b≠x->h.get? b=some u->h'.get? b=some u)->Q (.done (.ret .none)) ⟨h',g,d,tk',os⟩) :
  tP (tN prog w) A (Builtin.«object.__setattr__» ⟨[.ref x,.str name tk,v],[]⟩) Q E ⟨h,g,d,t,os⟩:=by
 have pass:refuseLoop (.ref x) "__setattr__" bm=pure ():=(iZ T _ _).trans (u7.passes (.ref x))
 have L1:=vz (M:=tN prog w) X Z.na
 unfold Builtin.«object.__setattr__»
 repeat (first | rw[refuse_eq] | (rw[refuseLoop_ref,pass]) | (with_reducible refine t9 hx ?_;rw[hc]) | with_reducible refine wpAny_mroOf_exc hC ?_ | with_reducible refine L1.at ?_ | wp_step)
 rw[hd,if_neg (by simp[typeHasDict])]
 let D:Obj:={ cls :=.type "dict",data :=.dict #[] }
 have p1:(h.push D).get? x=some o:=sN _ hx
 have p2:x≠h.objs.size:=λz=>absurd (sV hx) (z ▸ ux _)
 have live:o.isFreed=false:=dS hx
 have u1:((h.push D).update x λo=>{ o with dict:=some h.objs.size }).get? x=some { o with dict:=some h.objs.size } :=
  vo _ p1 (by obtain ⟨a,b,c,e⟩:=o;cases c <;> first | rfl | exact live)
 have u2:((h.push D).update x λo=>{ o with dict:=some h.objs.size }).get? h.objs.size=some D:=(vi _ _ _ _ (vf p2)).trans (xB rfl rfl)
 have u3:∀b u,b≠x->h.get? b=some u->((h.push D).update x λo=>{ o with dict:=some h.objs.size }).get? b=some u:=λb u n e=>(vi _ _ _ _ n).trans (sN _ e)
 have emp:((h.push D).update x λo=>{ o with dict:=some h.objs.size }).Ns1 h.objs.size λ_=>none:=Heap.Ns1.of_empty ⟨D, #[],_,u2,rfl,λe m=>absurd m (by simp),λ_=>rfl⟩
 have fin:tP (tN prog w) A (Builtin.ObjectAttr.storeInDict h.objs.size (.str name tk) name v) Q E ⟨(h.push D).update x λo=>{ o with dict:=some h.objs.size },g,d,t,os⟩:=by
  unfold Builtin.ObjectAttr.storeInDict Builtin.ObjectAttr.newKeyGuard
  refine sP (tQ (sP (wpAny_nsSet1 emp λh2 n2 s2 =>?_)))
  obtain ⟨ob,es,ep,e1,e2,e3⟩:=n2.count (Within.cons name v Within.nil)
  refine sP (wpAny_lookBehind e1 (by rw[e2];exact pastItsLine_dict (tM e3 (by show 1<=_;decide))) ?_)
  wp_walk
  refine hq h2 _ ((s2.2 x p2).trans u1) n2 λb u n e=>(s2.2 b ?_).trans (u3 b u n e)
  exact λz=>absurd (sV e) (z ▸ ux _)
 split
 ·rename_i q
  cases q
 split
 ·rename_i c q
  exact absurd q (hnc c)
 ·refine sP (wpAny_alloc' (o:=D) ?_)
  refine sP (wpAny_update' p1 ?_)
  exact tQ fin
theorem oO {Q:Unit->sL->Prop}(X:K.In h)(Z:ExS K C name)(hC:h.get? C=some (excClassObj nm q C N bs bm true sn sub ab col dd k0 k1 k2 k3 k5 newId))(T:OwnTail h bA bm)(hx:h.get? x=some o)(hc:o.cls = .ref C)(hd:o.dict=none)(hnc:∀c,o.data ≠ .cls c)
  (hq:∀h' tk',h'.get? x=some { o with dict:=some h.objs.size }->h'.Ns1 h.objs.size (λy=>if y=name then some v else none)->(∀b u,b≠x->h.get? b=some u->h'.get? b=some u)->Q () ⟨h',g,d,tk',os⟩) :
  tP (tN prog w) A (setAttr (.ref x) name v) Q E ⟨h,g,d,t,os⟩:=by
 have f3:=u7.slot.bind (.ref x)
 have LS:=vz (M:=tN prog w) X Z.sa
 unfold setAttr callSpecial? specialOf
 repeat (any_goals (first | assumption | (with_reducible refine t9 hx ?_;rw[hc]) | with_reducible refine LS.at ?_ | wp_step))
 refine vt u7.slot.plain u7.entry (mP X Z hx hc (mQ X Z hC T hx hc hd hnc λh2 tk2 a b c =>?_))
 repeat (any_goals (first | assumption | wp_step))
 exact hq h2 tk2 a b c
end
def az (ea C:Addr)(d:Option Addr):HO :=.ext λh=>∃o vs t,h.get? ea=some o/\o.cls = .ref C/\o.data = .fields vs/\vs.size=6/\vs[0]? = some (.ref t)/\vs[1]? = some .none/\o.dict=d
theorem fj {P:tj}{w:ud}{H:Hp}{h:Heap}{ea C:Addr}{d:Option Addr}(x:∃o vs t,h.get? ea=some o/\o.cls = .ref C/\o.data = .fields vs/\vs.size=6/\vs[0]? = some (.ref t)/\vs[1]? = some .none/\o.dict=d):aQ P w H h ea (az ea C d) :=
 ⟨x,by obtain ⟨o,_,_,e,_⟩:=x;exact ⟨o,e⟩,λh1 h2 p k=>by obtain ⟨o,vs,t,e,r⟩:=p;exact ⟨o,vs,t,k o e,r⟩⟩
structure ExN (K:sI)(C:Addr):Prop where
 ob:∃nm q N bs bm sn sub ab col dd k0 k1 k2 k3 k5,K.lookup C=some (excClassObj nm q C N bs bm true sn sub ab col dd k0 k1 k2 k3 k5 "ValueError.__new__")/\tailIn K bA bm=true
section
variable  {X:Cx}{pins:List (Addr×Obj)}{σ:St}{H:Hp}{s:sL}{ea C:Addr}{f:Str}{v:V}{u:sJ}
theorem Inv.qL {h':Heap}{tk:Nat}(I:Inv X pins σ H s)(he:H ea=some (az ea C none))(o:Obj)(ho:s.heap.get? ea=some o)(r:RelV v u)(a:h'.get? ea=some { o with dict:=some s.heap.objs.size })
  (b:h'.Ns1 s.heap.objs.size (λy=>if y=f then some u else none)) (c:∀b u,b≠ea->s.heap.get? b=some u->h'.get? b=some u) :
  Inv X pins σ (upd (upd H s.heap.objs.size (.xd [(f,v)])) ea (az ea C (some s.heap.objs.size))) { s with heap:=h',toks:=tk }:=by
 have hn:=I.fresh
 have ne:ea≠s.heap.objs.size:=tW (sV ho)
 have nsD:=b
 obtain ⟨oD,es,ep,eD,rD⟩:=id b
 have k1:∀b u,s.heap.get? b=some u->(s.heap.push oD).get? b=some u:=λb u e=>sN _ e
 have mu:Mut (upd H s.heap.objs.size (.xd [(f,v)]) ea):=by rw[ai ne,he];exact True.intro
 have live:oD.isFreed=false:=dS eD
 have own:∀(c:Addr) (y:Addr),H c=some (.own y)->c≠ea:=λc y q z=>by rw[z,he] at q;cases q
 have tup:∀(c:Addr) xs,H c=some (.tup xs)->c≠ea:=λc xs q z=>by rw[z,he] at q;cases q
 refine I.un ((Un.laid k1 (sS _) hn).trans (Un.write (x:=ea) (e:=ea) mu (.inl rfl) (λb u n e =>?_) ⟨_,a⟩)) λb w e =>?_
 ·by_cases z:b=s.heap.objs.size
  ·rw[z,xB rfl live] at e
   cases e
   rw[z];exact eD
  ·refine c b u n ?_
   rwa [Heap.get?_push_ne _ _ _ z] at e
 ·by_cases z:b=ea
  ·subst z
   rw[ae] at e
   cases e
   obtain ⟨⟨o',vs,t,e1,e2,e3,e4,e5,e6,e7⟩,_⟩:=I.hok _ _ he
   rw[ho] at e1;cases e1
   exact fj ⟨_,vs,t,a,e2,e3,e4,e5,e6,rfl⟩
  ·rw[ai z] at e
   by_cases y:b=s.heap.objs.size
   ·subst y
    rw[ae] at e
    cases e
    refine ⟨_,nsD,λg =>?_⟩
    show iK (List.lookup g [(f,v)]) (if g=f then some u else none)
    by_cases q:g=f
    ·have hb:(g == f)=true:=beq_iff_eq.mpr q
     rw[if_pos q];simp only[List.lookup,hb];exact r
    ·have hb:(g == f)=false:=beq_eq_false_iff_ne.mpr q
     rw[if_neg q];simp only[List.lookup,hb];exact True.intro
   ·rw[ai y] at e
    refine (I.hok b w e).bT (λc' w' hc q=>c c' w' ?_ q) (λc' q =>?_) λc' xs q =>?_
    ·rcases hc with rfl | hc
     ·exact z
     ·exact own _ _ hc
    ·rw[ai (own _ _ q),ai (aj q hn)];exact q
    ·rw[ai (tup _ _ q),ai (aj q hn)];exact q
theorem mR {tk:Nat}{Q:Unit->sL->Prop}{E:sJ->sL->Prop}(I:Inv X pins σ H s)(he:H ea=some (az ea C none))(N:ExN X.K C)(Z:ExS X.K C f)(r:RelV v u)
  (h:∀s' dx,H dx=none->dx≠ea->Inv X pins σ (upd (upd H dx (.xd [(f,v)])) ea (az ea C (some dx))) s'->Q () s'):tP (tN X.prog X.w) X.A (setAttr (.ref ea) f u) Q E s:=by
 obtain ⟨nm,q,N0,bs,bm,sn,sub,ab,col,dd,k0,k1,k2,k3,k5,lk,tl⟩:=N.ob
 have KI:=I.kIn
 obtain ⟨⟨o,vs,t,e1,e2,e3,e4,e5,e6,e7⟩,_⟩:=I.hok _ _ he
 obtain ⟨hh,g,d,tk,os⟩:=s
 refine oO KI Z (KI _ _ lk) (yL KI tl) e1 e2 e7 (λc z=>by rw[e3] at z;cases z) λh' tk' a b c=>h _ hh.objs.size I.fresh (xW (sV e1)) ?_
 exact Inv.qL (tk:=tk') I he o e1 r a b c
def sExF (K:sI)(ta tv:TE)(f:Str):TS:=λD σ H=>tv σ H λy H1=>ta σ H1 λx H2=>∃a C,x = .ref a/\H2 a=some (az a C none)/\ExN K C/\ExS K C f/\∀dx,H2 dx=none->dx≠a →
 D.nx σ (upd (upd H2 dx (.xd [(f,y)])) a (az a C (some dx)))
theorem jF {o value:Expr}{pos pos':Pos}{ta tv:TE}(ha:PE X o ta)(hv:PE X value tv)(hs:swapsWith value (some (.Attribute o f pos')) pos.line X.env=pure false):PS X (.Assign [.Attribute o f pos'] value pos) (sExF X.K ta tv f):=by
 intro pins s σ H D I h
 refine plainObj_wpAny_Assign_Attribute (thn (hv pins s σ H _ I h) λu s1 ⟨y,H1,I1,ry,q⟩=>thn (ha pins s1 σ H1 _ I1 q) λov s2 ⟨x,H2,I2,rx,a,C,ex,e0,c,n,q2⟩ =>?_) hs
 subst ex
 obtain rfl:ov=tH a:=rx
 exact mR (tk:=0) I2 e0 c n ry λs3 dx n1 n2 I3=>⟨σ,_,I3,q2 dx n1 n2⟩
end
open PySem PySem.Spec PySem.W PyProof.Rows
section
variable  {X:Cx}{pins:List (Addr×Obj)}{σ:St}{H:Hp}{s:sL}{ea C:Addr}{d:Option Addr}
theorem Inv.qM {its:List sJ}(I:Inv X pins σ H s)(he:H ea=some (az ea C d)) :
  Inv X pins σ H { s with heap:=(s.heap.push { cls :=.type "tuple",data :=.seq its.toArray }).update ea (Obj.mapFields (·.setIfInBounds 0 (.ref s.heap.objs.size))) }:=by
 obtain ⟨⟨o,vs,t,e1,e2,e3,e4,e5,e6,e7⟩,_⟩:=I.hok _ _ he
 have p1:(s.heap.push { cls :=.type "tuple",data :=.seq its.toArray }).get? ea=some o:=sN _ e1
 have k:∀b u,b≠ea->s.heap.get? b=some u->((s.heap.push { cls :=.type "tuple",data :=.seq its.toArray }).update ea (Obj.mapFields (·.setIfInBounds 0 (.ref s.heap.objs.size)))).get? b=some u:=λb u n e =>
  (vi _ _ _ _ n).trans (sN _ e)
 have m:=cS (·.setIfInBounds 0 (.ref s.heap.objs.size)) o
 have a:=vo (Obj.mapFields (·.setIfInBounds 0 (.ref s.heap.objs.size))) p1 (m.2.2.trans (dS e1))
 have z:=I.write (x:=ea) (e:=ea) (o:=az ea C d) (t':=s.toks) (by rw[he];exact True.intro) (.inl rfl) k ⟨_,a⟩
  (fj ⟨_,vs.setIfInBounds 0 (.ref s.heap.objs.size),s.heap.objs.size,a,m.1.trans e2,xh e3 _,by simpa using e4,by rw[Array.getElem?_setIfInBounds_self_of_lt (by omega)],by rw[Array.getElem?_setIfInBounds_ne (by decide)];exact e6,m.2.1.trans e7⟩)
 have same:upd H ea (az ea C d)=H:=by
  funext b
  by_cases q:b=ea
  ·rw[q,ae,he]
  ·rw[ai q]
 rw[same] at z
 exact z
theorem oP {us:List sJ}{Q:sJ->sL->Prop}{E:sJ->sL->Prop}(I:Inv X pins σ H s)(he:H ea=some (az ea C d))(N:ExN X.K C)(hz:us.length<=sM)(h:∀s',Inv X pins σ H s'->Q .none s') :
  tP (tN X.prog X.w) X.A (call (.builtin "ValueError.__init__") (.ref ea :: us)) Q E s:=by
 obtain ⟨nm,q,N0,bs,bm,sn,sub,ab,col,dd,k0,k1,k2,k3,k5,lk,tl⟩:=N.ob
 have KI:=I.kIn
 have J:=Inv.qM (its:=us) I he
 obtain ⟨⟨o,vs,t,e1,e2,e3,e4,e5,e6,e7⟩,_⟩:=I.hok _ _ he
 obtain ⟨hh,g,dr,tk,os⟩:=s
 refine yd (vt uE.init.plain uE.initEntry (wpAny_check_init_subT uE (yL KI tl) (KI _ _ lk) e1 e2 ?_))
 wp_walk
 rw[e3]
 refine tQ ?_
 show tP _ _ (match vs[0]? with | some x=>pure x | none=>unsupported "internal:no-such-field") _ _ _
 rw[e5]
 refine tQ (sP (yk (sN _ e1) e3 (by omega) ?_))
 wp_walk
 exact h _ J
end
structure ExW (K:sI)(mg:Str->Option sJ)(x:Str)(W:Addr):Prop where
 mg:mg x=some (.ref W)
 ga:specialIn K (.ref W) "__getattribute__" = some (some (.builtin "type.__getattribute__"))
 rd:readsIn K W (.type "type")=true
 fd:findCls K (.ref W) (.type "type") "__init__" = some (.val (.builtin "ValueError.__init__"))
def tExI (K:sI)(t:TA):TE:=λσ H Q=>t σ H λvs H1=>∃a C d r,vs = .ref a :: r/\H1 a=some (az a C d)/\ExN K C/\r.length<=sM/\Q .non H1
section
variable  {X:Cx}{x:Str}{W:Addr}{e:Expr}{es:List Expr}{t:TA}{np apos pos:Pos}
theorem eF {pl:Sem Bool}(w:ExW X.K X.mg x W)(hg:Gl X x)(ha:PA X (e :: es) t)(hdb:(x == ("__debug__" : Str))=false:=by decide)
    (he:tU (e :: es) X.env=(false,eval e X.env) :: tU es X.env:=by rfl) (hpl:(vV pos (tU es X.env)).any (·.1)=false:=by rfl)
    (ht:eval (.Call (.Attribute (.Name x np) "__init__" apos) (e :: es) [] pos) X.env=(do
      let ov ← eval (.Name x np) X.env
      standAt apos.atName
      let (f,first) ← zc [ov] (getMethod ov "__init__" pl)
      callWith pos f first (vV pos (tU (e :: es) X.env)) (backToKw pos (keywordEach [] X.env))):=by rfl) :
    PE X (.Call (.Attribute (.Name x np) "__init__" apos) (e :: es) [] pos) (tExI X.K t):=by
  intro pins s σ H Q I h
  refine methodCall_KW (pl:=pl) (bU I hg w.mg ?_ hdb) ht
  refine method_cls I.kIn w.ga (cls_value I.kIn w.rd w.fd (by decide +kernel) ?_)
  have hA:=ha pos pins { s with toks:=s.toks+1 } σ H _ (I.tok _) h
  rw[he] at hA ⊢
  refine xR (by show (false || (vV pos (tU es X.env)).any (·.1))=false;rw[hpl];rfl) (wF ?_)
  refine thn hA λus s2 ⟨vs,H2,I2,r2,a,C,d,r,ev,ea,N,z,q⟩ =>?_
  subst ev
  cases r2 with | cons r3 r4 =>
  have r3:_=tH a:=r3
  subst r3
  exact oP I2 ea N (by rw[<- r4.length];exact z) λs3 I3=>⟨.non,H2,I3,rfl,q⟩
end
open PySem PySem.Spec PySem.W PyProof.Rows
section
variable  {K:sI}{prog:tj}{w:ud}{A:ue}{E:sJ->sL->Prop}{h:Heap}{g:Array GenState}{d:Drawn}{t:Nat}{os:OsState}{C fI:Addr}{us:List sJ}
variable  {nm q:Str}{N:Addr}{bs bm:List sJ}{hdct:Bool}{sn:List Str}{sub:List sJ}{ab:Bool}{col:Option Bool}{dd:Option Addr}{k0 k1 k2 k3 k5:Option sJ}
theorem oQ {Q:PySem.Fin->sL->Prop}(X:K.In h)(T:OwnTail h bA bm)(hC:h.get? C=some (excClassObj nm q C N bs bm hdct sn sub ab col dd k0 k1 k2 k3 k5 "ValueError.__new__"))
  (hi:findIn K (.ref C) "__init__" = some (some (.ref fI))) (hf:typeIn K (.ref fI)=some (.type "function")) (hz:us.length<=sM)
  (hq:∀h',Heap.MadeExcOf h h' (h.objs.size+1) (.ref C) us->tP (tN prog w) A (call (.ref fI) (.ref (h.objs.size+1) :: us)) (λr s'=>r = .none/\Q (.done (.ret (.ref (h.objs.size+1)))) s') E ⟨h',g,d,t,os⟩) :
  tP (tN prog w) A (Builtin.«type.__call__» ⟨.ref C :: us,[]⟩) Q E ⟨h,g,d,t,os⟩:=by
 repeat (first | with_reducible refine t9 hC ?_ | with_reducible refine wpAny_madeBy_exc hC ?_ | wp_step)
 refine codeAny_call_builtin_code (wd _ uE.quiet) (wpAny_check_new_subT uE T hC (codeAny_exc_new_subT uE T hC ?_ hz))
 show tP _ _ _ _ _ _
 have made:Heap.MadeExcOf h ((h.push { cls :=.type "tuple",data :=.seq us.toArray }).push { cls :=.ref C,data :=.fields #[.ref h.objs.size,.none,.none,.none,.bool false,.none] }) (h.objs.size+1) (.ref C) us :=
  ⟨λb o e=>sN _ (sN _ e),vW (wN _),h.objs.size,by heap_get,vW (sS _),sN _ (xB rfl rfl)⟩
 obtain ⟨p,tup,e1,e2,e3⟩:=id made
 have X':K.In ((h.push { cls :=.type "tuple",data :=.seq us.toArray }).push { cls :=.ref C,data :=.fields #[.ref h.objs.size,.none,.none,.none,.bool false,.none] }):=X.keeps p
 have hC':=p _ _ hC
 have own:(tH C :: bm).contains (.ref C)=true:=by simp
 have L1:=vz (M:=tN prog w) X' hi
 have L2:=looks_typeIn (M:=tN prog w) X' hf
 unfold isInstance
 repeat (first | with_reducible refine t9 e1 ?_ | (with_reducible refine wpAny_isSubtype_exc hC' ?_;rw[own]) | wp_step)
 show tP _ _ (typeLookup (.ref C) _) _ _ _
 refine L1.here ?_
 refine vC (sP ?_)
 refine (bind_fn X' (.ref (h.objs.size+1)) hf).here ?_
 refine sP (uw (hq _ made) (λr s' z =>?_) λ_ _ z=>z)
 obtain ⟨rfl,z⟩:=z
 wp_walk
 exact z
theorem oR {Q:sJ->sL->Prop}(X:K.In h)(T:OwnTail h bA bm)(hC:h.get? C=some (excClassObj nm q C N bs bm hdct sn sub ab col dd k0 k1 k2 k3 k5 "ValueError.__new__"))
  (hi:findIn K (.ref C) "__init__" = some (some (.ref fI))) (hf:typeIn K (.ref fI)=some (.type "function")) (hz:us.length<=sM)
  (hq:∀h',Heap.MadeExcOf h h' (h.objs.size+1) (.ref C) us->tP (tN prog w) (A.under (.builtin "type.__call__" ⟨.ref C :: us,[]⟩)) (call (.ref fI) (.ref (h.objs.size+1) :: us)) (λr s'=>r = .none/\Q (.ref (h.objs.size+1)) s') E ⟨h',g,d,t,os⟩) :
  tP (tN prog w) A (call (.ref C) us) Q E ⟨h,g,d,t,os⟩:=by
 have l1:=tc_lookup
 have l2:=tc_bind (.ref C)
 have ty:(⟨h,g,d,t,os⟩:sL).TypeIs (.ref C) "type" :=⟨_,hC,rfl⟩
 refine yd (codeAny_of_tree ?_)
 show tP _ _ (callAny (.ref C) _) _ _ _
 repeat (any_goals (first | assumption | with_reducible refine t9 hC ?_ | wp_step))
 refine ⟨rfl,codeAny_call_builtin_at (wd _ (by decide +kernel)) entry_typeCall (wpAny_check_type_call_sub hC (oQ X T hC hi hf hz λh' made =>?_))⟩
 exact hq h' made
end
structure ExK (K:sI)(C f:Addr):Prop where
 n:ExN K C
 init:findIn K (.ref C) "__init__" = some (some (.ref f))
 fn:isFn K (.ref f)=true
 kp:keepIn K (.ref C)=true
def qN (C:Addr)(sp:Sp)(E:XK)(t:TA):TE:=λσ H Q=>t σ H λvs H1=>vs.length<=sM/\∀ea,H1 ea=none->sp (.ref ea :: vs) (upd H1 ea (az ea C none)) (λv H2=>v = .non/\Q (.ref ea) H2) E
section
variable  {X:Cx}{CX:CXT}{k:Nat}{f C:Addr}{fd:uh}{ps:List Str}{sp:Sp}{E:XK}{x:Str}{p pos:Pos}{e:Expr}{es:List Expr}{t:TA}
theorem gG {R:sJ->sL->Prop}{pins:List (Addr×Obj)}{σ:St}{H:Hp}{s:sL}{Q:VK}{us:List sJ}{vs:List V}(M:ExK X.K C f)(F:aZ X.prog X.w X.K X.mg X.base CX k f fd ps sp)(hr:bD (k+1) X.A)(hb:Binds X.K fd ps [])
  (hx:Passes CX X E) (I:Inv X pins σ H s) (r:Vals vs us) (hz:vs.length<=sM) (h:∀ea,H ea=none->sp (.ref ea :: vs) (upd H ea (az ea C none)) (λv H2=>v = .non/\Q (.ref ea) H2) E)
  (hR:∀ea s' H',X.s₀.heap.get? ea=none->Inv X pins σ H' s'->Q (.ref ea) H'->R (.ref ea) s'):tP (tN X.prog X.w) X.A (call (.ref C) us) R X.xe s:=by
 have hq:=h (s.heap.objs.size+1) (I.hok.fresh (wN _))
 obtain ⟨nm,q,N0,bs,bm,sn,sub,ab,col,dd,k0,k1,k2,k3,k5,lk,tl⟩:=M.n.ob
 have KI:=I.kIn
 have new:X.s₀.heap.get? (s.heap.objs.size+1)=none:=vW (vT I.sz)
 obtain ⟨hh,g,d,tk,os⟩:=s
 refine oR KI (yL KI tl) (KI _ _ lk) M.init (beq_iff_eq.mp M.fn) (by rw[<- r.length];exact hz) λh' made =>?_
 obtain ⟨kp,_,tp,m1,m2,m3⟩:=id made
 have I2:Inv X pins σ (upd H (hh.objs.size+1) (az (hh.objs.size+1) C none)) ⟨h',g,d,tk,os⟩ :=
  I.laid (s:=⟨hh,g,d,tk,os⟩) (t':=tk) kp (wN _) (fj ⟨_,_,tp,m1,rfl,rfl,rfl,rfl,rfl,rfl⟩)
 have r2:Vals (V.ref (hh.objs.size+1) :: vs) (tH (hh.objs.size+1) :: us) :=.cons rfl r
 have hl:(tH (hh.objs.size+1) :: us).length=ps.length:=by rw[<- r2.length];exact F.len _ _ _ _ hq
 have hb':=hb ⟨h',g,d,tk,os⟩ (tH (hh.objs.size+1) :: us) I2.kIn (by rw[uA];exact hl)
 rw[uA] at hb'
 refine yd (wz (F.run _ X.stack _ _ ⟨tH (hh.objs.size+1) :: us,[]⟩ (tH (hh.objs.size+1) :: us) _ _ E (hr.make C us []) (I2.qa.make C us []) hb' r2 hq) λr s' hq' =>?_)
 cases r with
 | error e=>exact hx pins σ _ _ e s' I2 hq'
 | ok fl =>
  cases fl with
  | ret u =>
   obtain ⟨v,H',I3,rv,ev,q3⟩:=I2.after hq'
   subst ev
   exact ⟨rv,hR _ _ _ new I3 q3⟩
  | next=>exact False.elim hq'
  | brk=>exact False.elim hq'
  | cont=>exact False.elim hq'
theorem fN (M:ExK X.K C f)(F:aZ X.prog X.w X.K X.mg X.base CX k f fd ps sp)(hr:bD (k+1) X.A)(hg:Gl X x)(hm:X.mg x=some (.ref C))(hb:Binds X.K fd ps [])(hx:Passes CX X E)
  (ha:PA X (e :: es) t) (hdb:(x == ("__debug__" : Str))=false:=by decide) (he:tU (e :: es) X.env=(false,eval e X.env) :: tU es X.env:=by rfl) (hpl:(vV pos (tU es X.env)).any (·.1)=false:=by rfl) :
  PE X (.Call (.Name x p) (e :: es) [] pos) (qN C sp E t):=by
 intro pins s σ H Q I h
 refine uQ (bU I hg hm ?_ hdb)
 refine vI (h₀:=X.base) I.ok.mod.kin M.kp (thn (ha pos pins s σ H _ I h) λus s1 ⟨vs,H1,I1,r,z,q⟩=>⟨I1.kIn,?_⟩) he hpl
 exact gG M F hr hb hx I1 r z q λea s2 H2 _ I2 q2=>⟨.ref ea,H2,I2,rfl,q2⟩
end
open PySem PySem.Spec PySem.W PyProof.Rows
section
variable  {K:sI}{M:Model}{A:ue}{E:sJ->sL->Prop}{s:sL}{env:Env}{C:Addr}
theorem oS {x:Sem sJ}{Q:Flow->sL->Prop}(hh:A.handled=none)(sb:subIn K (.ref C) (.type "BaseException")=some true)(ty:typeIn K (.ref C)=some (.type "type"))
  (h:tP M A x (λv s₁=>∃e o vs,v = .ref e/\K.In s₁.heap/\s₁.heap.get? e=some o/\o.cls = .ref C/\o.data = .fields vs/\vs[1]? = some .none/\E (.ref e) s₁) E s):tP M A (raiseStmt env (some x) none) Q E s:=by
 unfold raiseStmt
 refine sP (uw h (λv s₁ z =>?_) λ_ _ z=>z)
 obtain ⟨e,o,vs,rfl,X,he,hc,hd,h1,hE⟩:=z
 obtain ⟨hp,g,d,tk,os⟩:=s₁
 have L1:=yq (M:=M) X sb
 have L2:=looks_typeIn (M:=M) X ty
 repeat (first | (with_reducible refine t9 he ?_;first | rw[hc] | rw[hd]) | with_reducible refine L1.at ?_ | with_reducible refine L2.at ?_ | wp_step)
 rw[hd]
 refine tQ ?_
 show tP _ _ (match vs[1]? with | some x=>pure x | none=>unsupported "internal:no-such-field") _ _ _
 rw[h1]
 refine tQ ?_
 repeat (first | (with_reducible refine t9 he ?_;first | rw[hc] | rw[hd]) | with_reducible refine L1.at ?_ | with_reducible refine L2.at ?_ | wp_step)
 exact wpAny_raiseNew_none hh hE
end
def rm (H:Hp)(a:Addr):Hp:=λb=>if b=a then none else H b
theorem di {H:Hp}{a b:Addr}(n:b≠a):rm H a b=H b:=if_neg n
theorem hZ {H:Hp}{a:Addr}:rm H a a=none:=if_pos rfl
theorem HOk.rm {P:tj}{w:ud}{H:Hp}{h:Heap}{a:Addr}{φ:Heap->Prop}(x:HOk P w H h)(e:H a=some (.ext φ)):HOk P w (rm H a) h:=λb u q=>by
 have n:b≠a:=λz=>by rw[z,hZ] at q;cases q
 rw[di n] at q
 exact (x b u q).bT (λ_ _ _ y=>y) (λc y=>by rw[di (λz=>by rw[z,e] at y;cases y)];exact y) λc xs y=>by rw[di (λz=>by rw[z,e] at y;cases y)];exact y
section
variable  {X:Cx}{pins:List (Addr×Obj)}{σ:St}{H:Hp}{s:sL}{ea C:Addr}{d:Option Addr}
theorem Fly.sj {M:Model}{E:sJ->sL->Prop}{Q:Unit->sL->Prop}(I:Inv X pins σ H s)(hst:X.stack=X.env :: X.outer)(hfr:X.env.frame=some X.env.locals)(hex:X.ex=[])
  (he:H ea=some (az ea C d)) (hn:X.s₀.heap.get? ea=none) (hQ:∀h2 B a0,Fly X.prog X.w X.outer X.H₀ (rm H ea) X.s₀.heap B ea (.ref C) a0 h2->XD h2 ea d->Q () { s with heap:=h2 }):tP M X.A (leaving X.env (.ref ea)) Q E s:=by
 obtain ⟨⟨o,vs,t,e1,e2,e3,e4,e5,e6,e7⟩,_⟩:=I.hok _ _ he
 have ff:=I.stack
 have ff':=funFrames_hide (as:=ea :: frs X.stack) ff λenv hm b hb=>tS _ (v9.mpr ⟨env,hm,hb⟩)
 have fh:∀b∈frs X.stack,H b=none:=I.fb
 have nL:∀b o,X.s₀.heap.get? b=some o->b≠X.env.locals:=λb o q z=>absurd (sT (sV q) (z ▸ I.ok.above)) (ux _)
 have ne:∀b o,X.s₀.heap.get? b=some o->b≠ea:=λb o q z=>by rw[z,hn] at q;cases q
 have nst:∀b,b∉X.fs->b≠X.env.locals->b≠ea->b∉ea :: frs X.stack:=λb n1 n2 n3 m=>by
  rcases tG.mp m with m | m
  ·exact n3 m
  rw[hst] at m
  unfold frs at m
  rw[uF,hfr] at m
  rcases tG.mp m with z | z
  ·exact n2 z
  ·exact n1 z
 have sub:∀b∈X.fs,b∈frs X.stack:=λb m=>by
  rw[hst];unfold frs;rw[uF,hfr];exact tS _ m
 have nx:∀b,b∉X.ex:=λb m=>by rw[hex] at m;cases m
 have nh:∀b u,(∀φ,u≠HO.ext φ)->H b=some u->b≠ea:=λb u nu q z=>by rw[z,he] at q;cases q;exact nu _ rfl
 have none_ea:(hideAll s.heap (ea :: frs X.stack)).get? ea=none:=hideAll_none _ (.head _)
 have z:=bP (dh X.env (.ref ea)) (wpAny_leaving_firstW (M:=M) (A:=X.A) (E:=E) (s:=s) (base:=hideAll s.heap (ea :: frs X.stack)) (outer:=X.outer) (a0 :=.ref t) (Q:=λ_ s2=>∃h2,s2={ s with heap:=h2 }/\Heap.LeftW (hideAll s.heap (ea :: frs X.stack)) (X.env :: X.outer) ea o.cls (.ref t) s.heap h2)
  (by rw[I.ok.frames,hst]) (by rw[<- hst];exact ff') hfr e1 (λb u q=>of_hideAll _ q) none_ea e3 e6 e5 λh2 y=>⟨h2,rfl,y⟩)
 refine uw z (λ_ s2 y =>?_) λ_ _ y=>y.1
 obtain ⟨⟨h2,rfl,L⟩,kd⟩:=y
 obtain ⟨k1,⟨_,_,k2⟩,k3,k4⟩:=L
 rw[e2] at k3
 have f2:Heap.FlyingW (hideAll s.heap (ea :: frs X.stack)) X.outer ea (.ref C) (.ref t) h2:=⟨k1,none_ea,k2,k3⟩
 have sl:∀b∈frs X.stack,∀o,s.heap.get? b=some o->∃sl,h2.get? b=some { o with slots:=sl }:=λb m o e=>by
  obtain ⟨_,o',ho',hd⟩:=ff.mem m
  rw[e] at ho';cases ho'
  exact k4 b o e hd
 refine hQ h2 _ _ ⟨f2,⟨λb o q n m _ =>?_,λb o q n m _ =>?_,λb o q n _ =>?_,λb o q _ =>?_,λb xs q =>?_,λb o u q =>?_,λb ps q =>?_⟩,(I.hok.rm he).hide λb m =>?_,λb o q n m =>?_,λb o q m =>?_⟩ ?_
 ·exact k1 _ _ (vR _ (I.base.keep b o q n m (nx b)) (nst b m (nL b o q) (ne b o q)))
 ·obtain ⟨s1,e⟩:=I.base.slot b o q n m (nx b)
  obtain ⟨s2,e'⟩:=sl b (sub b m) _ e
  exact ⟨s2,e'⟩
 ·rw[di (ne b o q)];exact I.base.free b o q n (nx b)
 ·obtain ⟨o',e⟩:=I.base.there b o q (nx b)
  by_cases m:b∈frs X.stack
  ·obtain ⟨s2,e'⟩:=sl b m _ e
   exact ⟨_,e'⟩
  ·exact ⟨o',k1 _ _ (vR _ e λmm=>(tG.mp mm).elim (ne b o q) m)⟩
 ·have y:=I.base.tups b xs q
  rw[di (nh b _ (λ_ z=>by cases z) y)];exact y
 ·have y:=I.base.frzs b o u q
  rw[di (nh b _ (λ_ z=>by cases z) y)];exact y
 ·obtain ⟨mo,y⟩:=I.base.tbls b ps q
  exact ⟨mo,by rw[di (nh b _ (λ_ z=>by cases z) y)];exact y⟩
 ·rcases tG.mp m with m | m
  ·rw[m,hZ]
  ·by_cases q:b=ea
   ·rw[q,hZ]
   ·rw[di q];exact fh b m
 ·exact vR _ (I.base.keep b o q n m (nx b)) (nst b m (nL b o q) (ne b o q))
 ·obtain ⟨o',e⟩:=I.base.there b o q (nx b)
  exact ⟨o',vR _ e (nst b m (nL b o q) (ne b o q))⟩
 ·exact λdx ed=>XD.kd kd (λdx' e'=>⟨o,e1,e7.trans e'⟩) dx ed
end
def pF (X:Cx)(E:XK):Prop:=∀(pins:List (Addr×Obj)) (σ:St) (H:Hp) (s:sL) (ea C:Addr) (d:Option Addr),Inv X pins σ H s->H ea=some (az ea C d)->X.s₀.heap.get? ea=none->E (.ref C) d (rm H ea)->X.xe (.ref ea) s
theorem pG {P:tj}{w:ud}{K:sI}{mg:Str->Option sJ}{base:Heap}{N:List Str}{qual:Str}{sc:Scope}{f:Addr}{cdv:sJ}{A:ue}{outer:List Env}{s₀:sL}{H₀:Hp}{E:XK} :
  pF (fz (CX2 P w) P w K mg base N qual sc f cdv A outer s₀ H₀ E) E:=λpins σ H s ea C d I he hn q=>by
 exact Fly.sj I rfl rfl rfl he hn λh2 B a0 F2 D=>⟨ea,.ref C,a0,B,rm H ea,d,rfl,I.os,I.bare,F2,D,q⟩
def kh (C:Addr)(sp:Sp)(E:XK)(t:TA):TS:=λ_ σ H=>t σ H λvs H1=>vs.length<=sM/\∀ea,H1 ea=none →
 sp (.ref ea :: vs) (upd H1 ea (az ea C none)) (λv H2=>v = .non/\∃a d,V.ref ea = .ref a/\H2 a=some (az a C d)/\E (.ref C) d (rm H2 a)) E
theorem gH {X:Cx}{CX:CXT}{k:Nat}{f C:Addr}{fd:uh}{ps:List Str}{sp:Sp}{E:XK}{x:Str}{np cpos pos:Pos}{e:Expr}{es:List Expr}{t:TA}(O:pF X E)(M:ExK X.K C f)(sb:subIn X.K (.ref C) (.type "BaseException")=some true)(ty:typeIn X.K (.ref C)=some (.type "type"))
  (F:aZ X.prog X.w X.K X.mg X.base CX k f fd ps sp) (hr:bD (k+1) X.A) (hg:Gl X x) (hm:X.mg x=some (.ref C)) (hb:Binds X.K fd ps []) (hx:Passes CX X E)
  (ha:PA X (e :: es) t) (hdb:(x == ("__debug__" : Str))=false:=by decide) (he:tU (e :: es) X.env=(false,eval e X.env) :: tU es X.env:=by rfl) (hpl:(vV cpos (tU es X.env)).any (·.1)=false:=by rfl) :
  PS X (.Raise (some (.Call (.Name x np) (e :: es) [] cpos)) none pos) (kh C sp E t):=by
 intro pins s σ H D I h
 rw[arm_exec_Raise]
 have go:tP (tN X.prog X.w) X.A (eval (.Call (.Name x np) (e :: es) [] cpos) X.env) (λv s₁=>∃e o vs,v = .ref e/\X.K.In s₁.heap/\s₁.heap.get? e=some o/\o.cls = .ref C/\o.data = .fields vs/\vs[1]? = some .none/\X.xe (.ref e) s₁) X.xe s:=by
  refine uQ (bU I hg hm ?_ hdb)
  refine vI (h₀:=X.base) I.ok.mod.kin M.kp (thn (ha cpos pins s σ H _ I h) λus s1 ⟨vs,H1,I1,r,z,q⟩=>⟨I1.kIn,?_⟩) he hpl
  refine gG (Q:=λv H2=>∃a d,v = .ref a/\H2 a=some (az a C d)/\E (.ref C) d (rm H2 a)) M F hr hb hx I1 r z q λea s2 H2 n I2 ⟨a,d,ev,e2,q2⟩ =>?_
  cases ev
  obtain ⟨⟨o,ws,t,e1,c1,c2,c3,c4,c5,c6⟩,_⟩:=I2.hok _ _ e2
  exact ⟨ea,o,ws,rfl,I2.kIn,e1,c1,c2,c5,O pins σ H2 s2 ea C d I2 e2 n q2⟩
 refine sP (wI (oS hr.hd sb ty ?_))
 refine sP (uw go (λv s₃ h₃=>sP (wI (tQ h₃))) λ_ _ x=>x)
open PySem PySem.Spec PySem.W PyProof.Rows
section
variable  {K:sI}{prog:tj}{w:ud}{A:ue}{E:sJ->sL->Prop}{h:Heap}{g:Array GenState}{d:Drawn}{t:Nat}{os:OsState}{a C dx:Addr}{o:Obj}{name:Str}{v:sJ}{mA:Str->Option sJ}
variable  {nm q:Str}{N:Addr}{bs bm:List sJ}{sn:List Str}{sub:List sJ}{ab:Bool}{col:Option Bool}{dd:Option Addr}{k0 k1 k2 k3 k5:Option sJ}{newId:String}
theorem mS {tk:Tok}{Q:PySem.Fin->sL->Prop}(X:K.In h)(na:findIn K (.ref C) name=some none)(hC:h.get? C=some (excClassObj nm q C N bs bm true sn sub ab col dd k0 k1 k2 k3 k5 newId))(hx:h.get? a=some o)(hc:o.cls = .ref C)(hnc:∀c,o.data ≠ .cls c)(hd:o.dict=some dx)(hn:h.Ns dx mA)(hv:mA name=some v)
  (hq:Q (.done (.ret v)) ⟨h,g,d,t,os⟩):tP (tN prog w) A (Builtin.«object.__getattribute__» ⟨[.ref a,.str name tk],[]⟩) Q E ⟨h,g,d,t,os⟩:=by
 have L1:=vz (M:=tN prog w) X na
 repeat (first | (with_reducible refine t9 hx ?_;rw[hc]) | with_reducible refine L1.at ?_ | wp_step)
 split
 ·rename_i c z
  exact absurd z (hnc c)
 unfold instanceDict
 repeat (first | (with_reducible refine t9 hx ?_;rw[hc]) | with_reducible refine t9 hC ?_ | wp_step)
 rw[hd]
 repeat (first | (with_reducible refine wpAny_nsGet hn ?_;rw[hv]) | wp_step)
 exact hq
theorem ki {expr:Bool}{Q:sJ->sL->Prop}(X:K.In h)(Z:ExI K C)(na:findIn K (.ref C) name=some none)(hC:h.get? C=some (excClassObj nm q C N bs bm true sn sub ab col dd k0 k1 k2 k3 k5 newId))(hx:h.get? a=some o)(hc:o.cls = .ref C)(hnc:∀c,o.data ≠ .cls c)(hd:o.dict=some dx)(hn:h.Ns dx mA)(hv:mA name=some v)(hh:handedOut v=pure v)
  (hq:Q v ⟨h,g,d,t+1,os⟩):tP (tN prog w) A (getAttr (.ref a) name expr) Q E ⟨h,g,d,t,os⟩:=by
 have f3:=(vQ).ga.bind (.ref a)
 have y2:(Value.builtin "BaseException.__getattribute__" == Value.builtin "object.__getattribute__")=false:=by decide +kernel
 have y1:(onTheHeap (tH C) && Value.builtin "BaseException.__getattribute__" == Value.builtin "object.__getattribute__")=false:=by rw[y2];rfl
 have L1:=vz (M:=tN prog w) X Z.ga
 have L2:=vz (M:=tN prog w) X Z.gt
 unfold getAttr getAttrBy
 repeat (any_goals (first | assumption | (with_reducible refine t9 hx ?_;rw[hc]) | with_reducible refine L1.at ?_ | with_reducible refine L2.at ?_ | wp_step))
 rw[show (expr && onTheHeap (Value.builtin "BaseException.__getattribute__"))=false from wx _,if_neg (by decide)]
 unfold boundAndCalled
 repeat (any_goals (first | assumption | wp_step))
 refine vt (vQ).ga.plain y6 (iV X Z hx hc (mS X na hC hx hc hnc hd hn hv ?_))
 show tP _ _ (handedOut v) _ _ _
 rw[hh]
 exact tQ hq
end
def sk (K:sI)(ta:TE)(f:Str):TE:=λσ H Q=>ta σ H λx H1=>∃a C dx fs v,x = .ref a/\H1 a=some (bL a (.ref C) (some dx))/\H1 dx=some (.xd fs)/\ExN K C/\ExI K C/\findIn K (.ref C) f=some none/\fs.lookup f=some v/\Q v H1
theorem qO {X:Cx}{e:Expr}{f:Str}{pos:Pos}{ta:TE}(he:PE X e ta)(hb:attributeBase e f X.env (eval e X.env)=eval e X.env):PE X (.Attribute e f pos) (sk X.K ta f):=by
 intro pins s σ H Q I h
 refine jT hb (thn (he pins s σ H _ I h) λu s1 ⟨x,H1,I1,rx,a,C,dx,fs,v,ex,ea,ed,N,Z,na,l,q⟩ =>?_)
 subst ex
 obtain rfl:u=tH a:=rx
 obtain ⟨nm,qq,N0,bs,bm,sn,sub,ab,col,dd,k0,k1,k2,k3,k5,lk,tl⟩:=N.ob
 obtain ⟨⟨o,vs,e1,e2,e3,e4⟩,_⟩:=I1.hok _ _ ea
 obtain ⟨mA,ns,r⟩:=I1.hok _ _ ed
 obtain ⟨u,hu,ru⟩:=iK.some_of (v:=v) (o:=mA f) (by rw[<- l];exact r f)
 have KI:=I1.kIn
 have J:=I1.tok (s1.toks+1)
 obtain ⟨hh,g,d,tk,os⟩:=s1
 exact ki KI Z na (KI _ _ lk) e1 e2 (λc z=>by rw[e3] at z;cases z) (e4 dx rfl) ns.ns hu (handedOut_of (gm ru)) ⟨v,H1,J,ru,q⟩
open PySem PySem.Spec PySem.W PyProof.Rows
section
variable  {X:Cx}
theorem cu {K:sI}(hK:X.K=K:=by rfl):bS X (.builtin "isinstance") (λxs H Q=>∃(ea C:Addr) (d:Option Addr) (c:V) (b:Bool),xs=[.ref ea,c]/\H ea=some (bL ea (.ref C) d)/\ExI K C/\eV c=true/\kitOne K (.ref C) (mL c)=some b/\Q (.bl b) H):=by
 subst hK
 intro pins s σ H xs us Q I r h
 obtain ⟨ea,C,d,c,b,rfl,he,Z,hc,hk,q⟩:=h
 cases r with | cons r1 r2 =>
 cases r2 with | cons r2 r3 =>
 cases r3
 obtain rfl:=hW hc r2
 have r1:_=tH ea:=r1
 subst r1
 obtain ⟨⟨o,_,e1,e2,_⟩,_⟩:=I.hok ea _ he
 have p:∃o,s.heap.get? ea=some o/\o.cls = .ref C:=⟨o,e1,e2⟩
 exact kia_one (fK Z) I.kIn p hk (by intro z;cases z) λtk=>⟨.bl b,H,I.tok tk,rfl,q⟩
theorem jG {K:sI}(hK:X.K=K:=by rfl):bS X (.builtin "isinstance") (λxs H Q=>∃(ea C tp:Addr) (d:Option Addr) (cs:List V) (b:Bool),xs=[.ref ea,.ref tp]/\H ea=some (bL ea (.ref C) d)/\ExI K C/\H tp=some (.tup cs)/\(∀c∈cs,eV c=true)/\kitAny K (.ref C) (cs.map mL)=some b/\Q (.bl b) H):=by
 subst hK
 intro pins s σ H xs us Q I r h
 obtain ⟨ea,C,tp,d,cs,b,rfl,he,Z,ht,hc,hk,q⟩:=h
 cases r with | cons r1 r2 =>
 cases r2 with | cons r2 r3 =>
 cases r3
 have r2:_=tH tp:=r2
 subst r2
 have r1:_=tH ea:=r1
 subst r1
 obtain ⟨⟨o,_,e1,e2,_⟩,_⟩:=I.hok ea _ he
 have p:∃o,s.heap.get? ea=some o/\o.cls = .ref C:=⟨o,e1,e2⟩
 obtain ⟨_,its,rt,o,ho,⟨hcl,hd⟩,n,hn⟩:=I.hok tp _ ht
 have e:=iW hc rt
 subst e
 obtain ⟨oc,od,odt,osl⟩:=o
 simp only at hcl hd hn
 subst hcl hd hn
 exact kia_tup (fK Z) I.kIn p ho hk (by intro z;cases z) λtk=>⟨.bl b,H,I.tok tk,rfl,q⟩
end
open PySem PySem.Spec PyProof.Rows
def cg (K:sI)(x:Str)(st:Stmt):Prop:=∃(f:Addr) (od an:Option Addr) (sl:Array (Option sJ)) (oc kV dc pm cd ct:sJ),tX K tF x=some (some (.ref f))/\K.lookup f=some ⟨oc,od,.func (PySem.W.fnOf x x (bF st) (aX st) (au st) .none kV dc pm an cd ct),sl⟩/\PySem.W.codeIn K cd x=true/\PySem.W.keepIn K (.ref f)=true
theorem cg.mk {K:sI}{x:Str}{st:Stmt}{f:Addr}{od an:Option Addr}{sl:Array (Option sJ)}{oc kV dc pm cd ct:sJ}(a:tX K tF x=some (some (.ref f)))(l:K.lookup f=some ⟨oc,od,.func (PySem.W.fnOf x x (bF st) (aX st) (au st) .none kV dc pm an cd ct),sl⟩)(c:PySem.W.codeIn K cd x=true)(k:PySem.W.keepIn K (.ref f)=true):cg K x st:=⟨_,_,_,_,_,_,_,_,_,_,a,l,c,k⟩
theorem cg.cal {K:sI}{x:Str}{st:Stmt}(hf:cg K x st)(P:tj)(w:ud)(base:Heap){h:Heap}{mg:Str->Option sJ}(X:K.In h)(G:h.Ns tF mg){lv:Nat}{ps:List Str}{sp:Sp}(ok:∀{f:Addr} {fd:uh},Fun K x x st f fd->aZ P w K mg base CX0 lv f fd ps sp)
  (hb:∀(kV doc pm:sJ) (an:Option Addr) (cdv ct:sJ) (us:List sJ),us.length=ps.length->bindArgs (PySem.W.fnOf x x (bF st) (aX st) (au st) .none kV doc pm an cdv ct) ⟨us,[]⟩=pure (ps.zip us)):Cal P w K mg base lv x ps sp:=by
 obtain ⟨f,od,an,sl,oc,kV,dc,pm,cd,ct,a,l,c,k⟩:=hf
 have F:=gX l c k
 exact ⟨_,_,ok F,um X G a,k,F.binds hb⟩
open PySem PySem.Spec PySem.W PyProof.Rows
section
variable  {X:Cx}{pins:List (Addr×Obj)}{σ:St}{H:Hp}{s:sL}{h':Heap}
theorem HOk.no {P:tj}{w:ud}{h:Heap}{a:Addr}(x:HOk P w H h)(e:h.get? a=none):H a=none:=by
 cases q:H a with
 | none=>rfl
 | some u=>obtain ⟨o,z⟩:=(x a u q).ex;rw[e] at z;cases z
theorem Un.mT {fs ex:List Addr}{h:Heap}{a:Addr}{o:HO}(k:∀b u,h.get? b=some u->h'.get? b=some u)(hp:h.get? a=none)(hn:H a=none):Un fs ex H (upd H a o) h h' where
 keep:=λb u q _ _ _=>k b u q
 slot:=λb u q _ _ _=>⟨u.slots,k b u q⟩
 free:=λb u q n _=>by rw[ai (λz=>by rw[z,hp] at q;cases q)];exact n
 there:=λb u q _=>⟨u,k b u q⟩
 tups:=λb xs q=>by rw[ai (aj q hn)];exact q
 frzs:=λb u xs q=>by rw[ai (aj q hn)];exact q
 tbls:=λb ps q=>⟨#[],by rw[ai (aj q hn),q];simp⟩
theorem Inv.mT {a:Addr}{o:HO}{t':Nat}(I:Inv X pins σ H s)(k:∀b u,s.heap.get? b=some u->h'.get? b=some u)(hp:s.heap.get? a=none)(new:aQ X.prog X.w (upd H a o) h' a o) :
  Inv X pins σ (upd H a o) { s with heap:=h',toks:=t' }:=by
 have hn:=I.hok.no hp
 refine I.un (Un.mT k hp hn) λb u e =>?_
 by_cases hb:b=a
 ·subst hb;rw[ae] at e;cases e;exact new
 ·rw[ai hb] at e
  exact (I.hok b u e).bT (λc v _ q=>k c v q) (λc q=>by rw[ai (aj q hn)];exact q) λc xs q=>by rw[ai (aj q hn)];exact q
end
def so (C:Addr)(t:TA):TE:=λσ H Q=>t σ H λvs H1=>vs.length<=sM/\∀ea,H1 ea=none->Q (.ref ea) (upd H1 ea (az ea C none))
theorem ck {X:Cx}{C:Addr}{x:Str}{e:Expr}{es:List Expr}{t:TA}{p pos:Pos}(hc:ExC X.K X.mg x C)(kp:keepIn X.K (.ref C)=true)(hg:Gl X x)(ha:PA X (e :: es) t)
  (hdb:(x == ("__debug__" : Str))=false:=by decide) (he:tU (e :: es) X.env=(false,eval e X.env) :: tU es X.env:=by rfl) (hpl:(vV pos (tU es X.env)).any (·.1)=false:=by rfl) :
  PE X (.Call (.Name x p) (e :: es) [] pos) (so C t):=by
 intro pins s σ H Q I h
 refine uQ (bU I hg hc.mg ?_ hdb)
 refine vI (h₀:=X.base) I.ok.mod.kin kp (thn (ha pos pins s σ H _ I h) λus s1 ⟨vs,H1,I1,r,z,q⟩=>⟨I1.kIn,?_⟩) he hpl
 obtain ⟨bm,N,nm,qq,bs',hd,sn,sub,ab,col,dd,k0,k1,k2,k3,k5,mN,hC,hN,hni,T⟩:=mI I1.kIn hc.ex
 obtain ⟨hh,g,d,tk,os⟩:=s1
 refine wpAny_call_exc_subT uE T hC hN hni (λh' ea made =>?_) (by rw[wb, <- r.length];exact z)
 obtain ⟨t0,m1,m2,m3⟩:=made.there
 exact ⟨.ref ea,_,I1.mT (s:=⟨hh,g,d,tk,os⟩) (t':=tk) made.keeps made.new (fj ⟨_,_,t0,m1,rfl,rfl,rfl,rfl,rfl,rfl⟩),rfl,q ea (I1.hok.no made.new)⟩
section
variable  {X:Cx}
theorem aU {K:sI}(hK:X.K=K:=by rfl):bS X (.builtin "isinstance") (λxs H Q=>∃(ea C:Addr) (d:Option Addr) (c:V) (b:Bool),xs=[.ref ea,c]/\H ea=some (az ea C d)/\ExI K C/\eV c=true/\kitOne K (.ref C) (mL c)=some b/\Q (.bl b) H):=by
 subst hK
 intro pins s σ H xs us Q I r h
 obtain ⟨ea,C,d,c,b,rfl,he,Z,hc,hk,q⟩:=h
 cases r with | cons r1 r2 =>
 cases r2 with | cons r2 r3 =>
 cases r3
 obtain rfl:=hW hc r2
 have r1:_=tH ea:=r1
 subst r1
 obtain ⟨⟨o,_,_,e1,e2,_⟩,_⟩:=I.hok ea _ he
 have p:∃o,s.heap.get? ea=some o/\o.cls = .ref C:=⟨o,e1,e2⟩
 exact kia_one (fK Z) I.kIn p hk (by intro z;cases z) λtk=>⟨.bl b,H,I.tok tk,rfl,q⟩
def sr (K:sI)(ta:TE)(f:Str):TE:=λσ H Q=>ta σ H λx H1=>∃a C dx fs v,x = .ref a/\H1 a=some (az a C (some dx))/\H1 dx=some (.xd fs)/\ExN K C/\ExI K C/\findIn K (.ref C) f=some none/\fs.lookup f=some v/\Q v H1
theorem ia {e:Expr}{f:Str}{pos:Pos}{ta:TE}(he:PE X e ta)(hb:attributeBase e f X.env (eval e X.env)=eval e X.env):PE X (.Attribute e f pos) (sr X.K ta f):=by
 intro pins s σ H Q I h
 refine jT hb (thn (he pins s σ H _ I h) λu s1 ⟨x,H1,I1,rx,a,C,dx,fs,v,ex,ea,ed,N,Z,na,l,q⟩ =>?_)
 subst ex
 obtain rfl:u=tH a:=rx
 obtain ⟨nm,qq,N0,bs,bm,sn,sub,ab,col,dd,k0,k1,k2,k3,k5,lk,tl⟩:=N.ob
 obtain ⟨⟨o,vs,t0,e1,e2,e3,e4,e5,e6,e7⟩,_⟩:=I1.hok _ _ ea
 obtain ⟨mA,ns,r⟩:=I1.hok _ _ ed
 obtain ⟨u,hu,ru⟩:=iK.some_of (v:=v) (o:=mA f) (by rw[<- l];exact r f)
 have KI:=I1.kIn
 have J:=I1.tok (s1.toks+1)
 obtain ⟨hh,g,d,tk,os⟩:=s1
 exact ki KI Z na (KI _ _ lk) e1 e2 (λc z=>by rw[e3] at z;cases z) e7 ns.ns hu (handedOut_of (gm ru)) ⟨v,H1,J,ru,q⟩
theorem oT:SlR X (λx lo hi H Q=>∃z:Str,x = .str z/\(Builtin.Str.strSliceIndices lo hi 1 z.length).length<=sM/\∀y,Q (.str y) H):=by
 intro pins s σ H x v vl vu lo hi sl Q I rx hs pl pu h
 obtain ⟨z,rfl,hz,q⟩:=h
 obtain ⟨t,rfl⟩:=rx
 refine ⟨"str",_,slot_str_getitem.lookup,zw s z t,?_⟩
 have part:∀{u:sJ} {o:Option Int},IsPart u o->∃p:Option (Int×Tok),u=partValue p/\p.map (·.1)=o:=λ{u o} hp=>by
  cases hp with
  | none=>exact ⟨none,rfl,rfl⟩
  | int i tk=>exact ⟨some (i,tk),rfl,rfl⟩
 obtain ⟨p1,rfl,e1⟩:=part pl
 obtain ⟨p2,rfl,e2⟩:=part pu
 refine wpAny_getItem_str_slice (l:=p1) (u:=p2) (st:=none) hs rfl ?_
 unfold sliceMade
 split
 ·exact ⟨.str z,H,I,⟨_,rfl⟩,q z⟩
 ·refine ⟨?_,.str _,H,I.tok _,⟨_,rfl⟩,q _⟩
  refine tM (List.length_filterMap_le _ _) ?_
  show (Builtin.Str.strSliceIndices (p1.map (·.1)) (p2.map (·.1)) 1 z.length).length<=sM
  rw[e1,e2];exact hz
end
def i3 (K:sI)(C:Addr)(nm qual:Str)(st:Stmt):Prop:=∃(f:Addr) (od an:Option Addr) (sl:Array (Option sJ)) (oc kV dc pm cd ct:sJ),findIn K (.ref C) nm=some (some (.ref f))/\isFn K (.ref f)=true/\K.lookup f=some ⟨oc,od,.func (PySem.W.fnOf nm qual (bF st) (aX st) (au st) .none kV dc pm an cd ct),sl⟩/\PySem.W.codeIn K cd qual=true/\PySem.W.keepIn K (.ref f)=true
theorem i3.mk {K:sI}{C:Addr}{nm qual:Str}{st:Stmt}{f:Addr}{od an:Option Addr}{sl:Array (Option sJ)}{oc kV dc pm cd ct:sJ}(i:findIn K (.ref C) nm=some (some (.ref f)))(n:isFn K (.ref f)=true)(l:K.lookup f=some ⟨oc,od,.func (PySem.W.fnOf nm qual (bF st) (aX st) (au st) .none kV dc pm an cd ct),sl⟩)(c:PySem.W.codeIn K cd qual=true)(k:PySem.W.keepIn K (.ref f)=true):i3 K C nm qual st:=⟨_,_,_,_,_,_,_,_,_,_,i,n,l,c,k⟩
structure mU (P:tj)(w:ud)(K:sI)(mg:Str->Option sJ)(base:Heap)(k:Nat)(C:Addr)(ps:List Str)(sp:Sp):Prop where
 ex:∃f fd,ExK K C f/\aZ P w K mg base (CX2 P w) k f fd ps sp/\Binds K fd ps []
theorem i3.ini {K:sI}{C:Addr}{qual:Str}{st:Stmt}(hf:i3 K C "__init__" qual st)(N:ExN K C)(kp:keepIn K (.ref C)=true)(P:tj)(w:ud)(base:Heap){mg:Str->Option sJ}{lv:Nat}{ps:List Str}{sp:Sp}(ok:∀{f:Addr} {fd:uh},Fun K "__init__" qual st f fd->aZ P w K mg base CX0 lv f fd ps sp)
  (hb:∀(kV doc pm:sJ) (an:Option Addr) (cdv ct:sJ) (us:List sJ),us.length=ps.length->bindArgs (PySem.W.fnOf "__init__" qual (bF st) (aX st) (au st) .none kV doc pm an cdv ct) ⟨us,[]⟩=pure (ps.zip us)):mU P w K mg base lv C ps sp:=by
 obtain ⟨f,od,an,sl,oc,kV,dc,pm,cd,ct,i,n,l,c,k⟩:=hf
 have F:=gX l c k
 exact ⟨_,_,⟨N,i,n,kp⟩,(ok F).cx2,F.binds hb⟩
def bY (K:sI)(C:Addr):Bool:=findIn K (.ref C) "__getattribute__" == some (some (.builtin "BaseException.__getattribute__")) && findIn K (.ref C) "__getattr__" == some none && findIn K (.ref C) "__class__" == some (some (.builtin "object.__class__")) &&
 subIn K (.ref C) (.type "object") == some true && subIn K (.ref C) (.type "BaseException") == some true && (clsIn K C).isSome && keepIn K (.ref C) && typeIn K (.ref C) == some (.type "type")
theorem aI {K:sI}{C:Addr}(h:bY K C=true):ExI K C/\keepIn K (.ref C)=true/\typeIn K (.ref C)=some (.type "type"):=by
 unfold bY at h
 simp only[uo,beq_iff_eq] at h
 obtain ⟨⟨⟨⟨⟨⟨⟨h1,h2⟩,h3⟩,h4⟩,h5⟩,h6⟩,h7⟩,h8⟩:=h
 exact ⟨⟨h1,h2,h3,h4,h5,h6⟩,h7,h8⟩
def i4 (K:sI)(C:Addr)(f:Str):Bool :=
 (match K.lookup C with
 | some ⟨.type "type",_,.cls cd,sl⟩=>(match cd.mro,sl.toList with
  | .ref C' :: bm,[_,_,_,_,some (.builtin n),_]=>C' == C && n == "ValueError.__new__" && !cd.hasDel && cd.hasDict && tailIn K bA bm
  | _,_=>false)
 | _=>false) && findIn K (.ref C) "__setattr__" == some (some (.builtin "object.__setattr__")) && findIn K (.ref C) f == some none && subIn K (.ref C) (.type "object") == some true
theorem bJ {K:sI}{C:Addr}{f:Str}(h:i4 K C f=true):ExN K C/\ExS K C f:=by
 unfold i4 at h
 simp only[uo,beq_iff_eq] at h
 obtain ⟨⟨⟨h1,h2⟩,h3⟩,h4⟩:=h
 refine ⟨⟨?_⟩,h2,h3,h4⟩
 split at h1
 ·rename_i d1 c1 sl1 l1
  split at h1
  ·rename_i C1 b1 j0 j1 j2 j3 n1 j5 m1 s1
   simp only[uo,beq_iff_eq,yJ] at h1
   obtain ⟨⟨⟨⟨rfl,rfl⟩,q1⟩,q3⟩,q2⟩:=h1
   obtain ⟨a1,a2,a3,a4,a5,a6,a7,a8,a9,a10,a11⟩:=c1
   dsimp only at m1 q1 q3
   subst m1 q1 q3
   obtain ⟨ll⟩:=sl1
   simp only at s1
   subst s1
   exact ⟨a1,a5,a4,a2,b1,a7,a8,a9,a10,d1,j0,j1,j2,j3,j5,l1,q2⟩
  ·cases h1
 ·cases h1
theorem cg.su {K:sI}{x:Str}{st:Stmt}(hf:cg K x st)(P:tj)(w:ud)(base:Heap){h:Heap}{mg:Str->Option sJ}(X:K.In h)(G:h.Ns tF mg){lv:Nat}{ps:List Str}{sp:Sp}(ok:∀{f:Addr} {fd:uh},Fun K x x st f fd->aZ P w K mg base (CX2 P w) lv f fd ps sp)
  (hb:∀(kV doc pm:sJ) (an:Option Addr) (cdv ct:sJ) (us:List sJ),us.length=ps.length->bindArgs (PySem.W.fnOf x x (bF st) (aX st) (au st) .none kV doc pm an cdv ct) ⟨us,[]⟩=pure (ps.zip us)):kg P w K mg base lv x ps sp:=by
 obtain ⟨f,od,an,sl,oc,kV,dc,pm,cd,ct,a,l,c,k⟩:=hf
 have F:=gX l c k
 exact ⟨_,_,ok F,um X G a,k,F.binds hb⟩
end L2
namespace Srt
open PySem PyProof.Rows
def mV (a:Addr)(before:Nat)(s:tK):Sem PySem.Fin:=do
  let touched:=(← seqEpoch a) != before
  Builtin.List.listUpdate (.ref a) λ_=>((tf s).map (·.2)).reverse
  if let some e:=failedOf s then rule "list.sort.comparison-raised";throw e
  if touched then rule "list.sort.modified";raiseError "ValueError" "list modified during sort"
  ret .none
def mW (a:Addr)(before:Nat)(items:Array sJ)(kind:SortKind):Sem PySem.Fin:=do
  let (_,s) ← (if items.size<2 then pure () else sortRuns').run (SortSt.mk' kind (items.zip items).reverse #[] 7 none)
  mV a before s
def ib (a:Addr):Sem PySem.Fin:=do
  let items ← Builtin.List.listItems (.ref a)
  Builtin.List.listUpdate (.ref a) λ_ => #[]
  let before ← seqEpoch a
  let held ← newTuple items.toList
  let keyStore ← newList []
  zc [held,keyStore] do
    rule "list.sort.reverse"
    let kind ← if items.size<2 then pure general' else keyKind' items
    mW a before items kind
theorem lI (a:Addr):Builtin.«list.sort» ⟨[.ref a],[("reverse",.bool true)]⟩=ib a:=by
 unfold ib
 with_unfolding_all rfl
theorem lJ (v:sJ):argsOk "sorted" ⟨[v],[("reverse",.bool true)]⟩:=by
 unfold argsOk
 rfl
theorem oU (v:sJ):argsOk "list.sort" ⟨[v],[("reverse",.bool true)]⟩:=by
 unfold argsOk
 with_unfolding_all rfl
section
variable  {prog:tj}{w:ud}{A:ue}{E:sJ->sL->Prop}{s:sL}{O:wX}{key:sJ->O.α}
theorem list_sort_rev {a:Addr}{vs:List sJ}{n:Nat}{P:Fin->sL->Prop}(ho:s.heap.get? a=some (seqObj "list" vs.toArray n))(hz:vs.length<=sM)
  (hc:2<=vs.length->∀h6,(∀b o,b≠a->s.heap.get? b=some o->h6.get? b=some o)->∃κ,(∀(Q:SortKind->sL->Prop) (E:sJ->sL->Prop),Q κ { s with heap:=h6 }->tP (tN prog w) A (keyKind' vs.toArray) Q E { s with heap:=h6 }) ∧
   Cmp prog w A { s with heap:=h6 } O (λp=>key p.1) (λp=>p.1=p.2/\p.1∈vs) κ)
  (h:∀out:List sJ,out.Perm vs->out.Pairwise (λx y=>O.kle (key y) (key x))->P (.done (.ret .none)) { s with heap:=sortedHeap s.heap a vs out.toArray }):tP (tN prog w) A (ib a) P E s:=by
 unfold ib
 have ha:a<s.heap.objs.size:=sV ho
 refine sP (x9 ho rfl ?_)
 refine sP (wJ ho rfl ?_ (by rw[sO];exact hz) (uz _))
 obtain ⟨e1,ho1⟩:∃e1,(s.heap.update a (vy λ_ => #[])).get? a=some (seqObj "list" #[] e1):=⟨_,yb ho (λ_ => #[])⟩
 refine sP (yp ho1 rfl (sP (wpAny_newTuple ?_ (by exact hz))))
 refine sP (wK ?_ (uz _))
 refine vC ?_
 refine sP (wu ?_)
 generalize hH:((s.heap.update a (vy λ_ => #[])).push (seqObj "tuple" vs.toArray 0)).push (seqObj "list" #[] 0)=h6
 have kp:∀b o,b≠a->s.heap.get? b=some o->h6.get? b=some o:=λb o nb e=>by
  rw[<- hH]
  refine sN _ (sN _ ?_)
  rw[vi _ _ _ _ nb]
  exact e
 have ho6:h6.get? a=some (seqObj "list" #[] e1):=by
  rw[<- hH]
  exact sN _ (sN _ ho1)
 have eH:∀out:List sJ,sortedHeap s.heap a vs out.toArray=h6.update a (vy λ_=>out.toArray):=λout=>by rw[<- hH];rfl
 have go:∀st':tK,(tf st').toList.Perm (vs.zip vs)->(tf st').toList.Pairwise (λp q=>O.kle (key p.1) (key q.1))->failedOf st'=none →
   tP (tN prog w) A (mV a e1 st') P E { s with heap:=h6 }:=by
  intro st' pm ps hf
  obtain ⟨z1,z2⟩:=dN pm
  have em:((tf st').map (·.2)).reverse=((tf st').toList.map (·.2)).reverse.toArray:=by
   apply xN.mp
   rw[uS,yU]
  unfold mV
  refine sP (yp ho6 rfl ?_)
  refine sP (wJ ho6 rfl ?_ (uz _) (by rw[Array.size_reverse,zk, <- sU,pm.length_eq,wR,x5];omega))
  rw[hf]
  simp only[bne_self_eq_false,uN,if_false]
  refine tQ ?_
  rw[em, <- eH]
  refine h _ ((wt _).trans z1) (List.pairwise_reverse.mpr (wq.mpr (ps.imp_of_mem λ{p q} hp hq le =>?_)))
  rw[<- (z2 p hp).1, <- (z2 q hq).1]
  exact le
 by_cases h2:vs.toArray.size<2
 ·rw[if_pos h2]
  refine sP (tQ ?_)
  unfold mW
  rw[if_pos h2]
  show tP _ _ ((pure ((),_):Sem (Unit×tK)) >>= _) _ _ _
  refine sP (tQ ?_)
  refine go (SortSt.mk' general' (vs.toArray.zip vs.toArray).reverse #[] 7 none) (by show (vs.toArray.zip vs.toArray).reverse.toList.Perm _;rw[uS];exact (wt _).trans (by simp)) ?_ rfl
  rw[sO] at h2
  have et:(vs.toArray.zip vs.toArray).reverse.toList=(vs.zip vs).reverse:=by simp
  show (vs.toArray.zip vs.toArray).reverse.toList.Pairwise (λ(p q:sW)=>O.kle (key p.1) (key q.1))
  rw[et]
  have short:∀us:List sJ,us.length<2->(us.zip us).reverse.Pairwise (λ(p q:sW)=>O.kle (key p.1) (key q.1)):=λus hu=>by
   match us,hu with
   | [],_=>exact List.Pairwise.nil
   | [v],_=>exact uO _ _
   | _ :: _ :: _,hu=>simp only[tY] at hu;omega
  exact short vs h2
 ·rw[if_neg h2]
  have h2':=h2
  rw[sO] at h2
  obtain ⟨κ,k1,C⟩:=hc (by omega) h6 kp
  refine sP (k1 _ _ ?_)
  unfold mW
  rw[if_neg h2']
  have et:(vs.toArray.zip vs.toArray).reverse.toList=(vs.zip vs).reverse:=by simp
  refine sP (uw (iQ C (E:=E) (a0:=(vs.zip vs).reverse) (st:=SortSt.mk' κ (vs.toArray.zip vs.toArray).reverse #[] 7 none)
   (Q:=λ_ st'=>(tf st').toList.Perm (vs.zip vs)/\(tf st').toList.Pairwise (Le λ(p:sW)=>key p.1)/\failedOf st'=none)
   (dN (wt _)).2 et rfl rfl rfl (by rw[ym,wR,x5];omega) λst' a1 a2 a3=>⟨a1.trans (wt _),a2,a3⟩) ?_ λ_ _ e=>e)
  rintro ⟨⟨⟩,st'⟩ s' ⟨rfl,hp,hs,hf⟩
  exact go st' hp hs hf
theorem jH {v:sJ}{vs:List sJ}{Q:sJ->sL->Prop}(hv:fG prog w s v vs)(hz:vs.length<=sM)(C:fi prog w s vs O key)
  (h:∀(h':Heap) (p:Addr) (out:List sJ) (n:Nat),(∀b o,s.heap.get? b=some o->h'.get? b=some o)->s.heap.objs.size<=p->h'.get? p=some (seqObj "list" out.toArray n)->out.Perm vs->out.Pairwise (λx y=>O.kle (key y) (key x))->Q (.ref p) { s with heap:=h' }) :
  tP (tN prog w) A (call (.builtin "sorted") [v] [("reverse",.bool true)]) Q E s:=by
 refine call_function_entry_kw kind_sorted plain_sorted entry_sorted (lJ _) ?_
 unfold Builtin.«sorted»
 refine sP (m:=checkCount "sorted" 1 1 _) (tQ ?_)
 refine sP (hv _ _ _ λh1 k1 z1=>sP (wK ?_ hz))
 have hoL:(h1.push (seqObj "list" vs.toArray 0)).get? h1.objs.size=some (seqObj "list" vs.toArray 0):=tR _ rfl
 have kL:∀b o,s.heap.get? b=some o->(h1.push (seqObj "list" vs.toArray 0)).get? b=some o:=λb o e=>sN _ (k1 b o e)
 refine sP (vC (wpAny_call_entry_kw slot_list_sort ⟨_,hoL,rfl⟩ entry_list_sort ?body ?args))
 case args=>exact oU _
 case body =>
  show tP (tN prog w) _ (Builtin.«list.sort» ⟨[.ref h1.objs.size],[("reverse",.bool true)]⟩) _ _ _
  rw[lI]
  refine list_sort_rev (key:=key) (O:=O) hoL hz (λh2 h6 k6 =>?_) λout pm ps=>⟨_,rfl,?_⟩
  ·exact C.ok h2 _ h6 λb o e=>k6 b o (tW (sT (sV e) z1)) (kL b o e)
  ·obtain ⟨n,en⟩:=sortedHeap_at (out:=out.toArray) hoL
   refine tQ ⟨_,rfl,h _ _ out n (λb o e =>?_) z1 en pm ps⟩
   have lt:=sT (sV e) z1
   rw[sortedHeap_old (tW lt) (by rw[zy];exact xx lt)]
   exact kL b o e
end
end Srt
namespace L2
open PySem PySem.Spec PyProof.Rows
section
variable  {X:Cx}
def mX (K:sI)(te:TE):TE:=λσ H Q=>te σ H λx H1=>∃(p:Addr) (ns:List Int),[x]=[.ref p]/\(SqL K H1 p (ns.map V.int)\/SqT K H1 p (ns.map V.int)) ∧
  ∀(l:Addr) (out:List Int),H1 l=none->out.Perm ns->out.Pairwise (λa b=>b<=a)->Q (.ref l) (upd H1 l (.lst (out.map V.int)))
theorem ic {e:Expr}{te:TE}{j:Nat}{p p3 pos kpos2:Pos}(hg:Gl X "sorted")(hm:X.mg "sorted" = none)(hv:uv "sorted" = some (.builtin "sorted"))(he:PE X e te)
    (hs:tU (e :: []) X.env=(false,eval e X.env) :: tU [] X.env:=by rfl)
    (ha:vV pos (tU (e :: []) X.env)=(false,eval e X.env) :: vV pos (tU [] X.env):=by rfl)
    (hplain:(vV pos (tU (e :: []) X.env)).any (·.1)=false:=by rfl) :
    PE X (.Call (.Name "sorted" p) [e] [⟨some "reverse",.Constant (.bool true) j p3,kpos2⟩] pos) (mX X.K te):=by
  intro pins s σ H Q I h
  refine uQ (dY I hg hm hv ?_)
  refine PyProof.Rows.callWith_kw (thn ((aa he ag hs) pos pins s σ H (λvs H1=>∃(p:Addr) (ns:List Int),vs=[.ref p]/\(SqL X.K H1 p (ns.map V.int)\/SqT X.K H1 p (ns.map V.int)) ∧
    ∀(l:Addr) (out:List Int),H1 l=none->out.Perm ns->out.Pairwise (λa b=>b<=a)->Q (.ref l) (upd H1 l (.lst (out.map V.int)))) I h) λus s1 ⟨vs,H1,I1,r1,q1⟩ =>?_) ha hplain rfl rfl
  show tP _ _ (evalAll ((do let v ← eval (.Constant (.bool true) j p3) X.env;standAt pos;pure v) :: [])) _ _ s1
  refine wpAny_evalAll_cons (sP (Constant_bool (sP (wI (tQ (wpAny_evalAll_nil ?_))))))
  show tP _ _ (call (.builtin "sorted") us [("reverse",.bool true)]) _ _ s1
  obtain ⟨a,ns,rfl,hq,q⟩:=q1
  obtain ⟨u,rfl,ru⟩:=vals1 r1
  cases (show u=tH a from ru)
  obtain ⟨its,o,n,rv,e1,c1,d1,z1⟩:=I1.iS hq
  have hI:=dQ rv
  have lz:its.length<=sM:=by rw[<- rv.length];exact z1
  refine Srt.jH (Srt.dO e1 c1 d1 lz) lz (Srt.hG hI) λh' l out m k hl el pm ps =>?_
  have hm:∀v∈out,∃i t,v=vY i t:=λv hv=>Srt.dP hI v (pm.mem_iff.mp hv)
  have hO:=gD hm
  have pm':(out.map Srt.intOf).Perm ns:=by
    have:=pm.map Srt.intOf
    rw[Srt.ints_map hI] at this
    exact this
  refine ⟨.ref l,_,I1.newList k hl el (hU hO) (by rw[t7,pm'.length_eq, <- t7 (f:=V.int)];exact z1),rfl,q l _ (I1.hok.fresh hl) pm' ?_⟩
  refine wq.mpr (ps.imp λ{x y} le =>?_)
  have le':decide (Srt.intOf x<Srt.intOf y)=false:=le
  have:=of_decide_eq_false le'
  omega
end
open PySem PySem.Spec PyProof.Rows Builtin Builtin.Str
section
variable  {X:Cx}
def shown:V->Option Str
 | .str z=>some z
 | .int i=>if i.natAbs.log2<1920 then some (toString i) else none
 | _=>none
def qP (t:TE):TE:=λσ H Q=>t σ H λx H1=>∃z,shown x=some z/\z.length<=sM/\Q (.str z) H1
theorem fO {e:Expr}{t:TE}{pos:Pos}(h:PE X e t):PE X (.FormattedValue e (-1) none pos) (qP t):=by
 intro pins s σ H Q I q
 refine wpAny_FormattedValue_plain (thn (h pins s σ H _ I q) λv s1 p1 =>?_)
 obtain ⟨x,H1,I1,r1,z,ez,lz,q1⟩:=p1
 cases x with
 | str y =>
  cases (tV ez:y=z)
  obtain ⟨tk,rfl⟩:=r1
  exact wpAny_formatField_str (hx:=lz) ⟨.str _,H1,I1,⟨_,rfl⟩,q1⟩ ⟨.str _,H1,I1.tok _,⟨_,rfl⟩,q1⟩
 | int i =>
  by_cases hl:i.natAbs.log2<1920
  ·have e:=(if_pos hl).symm.trans ez
   cases (tV e)
   obtain ⟨tk,rfl⟩:=r1
   exact wpAny_formatField_int hl ⟨.str _,H1,I1.tok _,⟨_,rfl⟩,q1⟩
  ·cases (if_neg hl).symm.trans ez
 | non=>cases ez
 | bl b=>cases ez
 | byt b=>cases ez
 | flt b=>cases ez
 | ref a=>cases ez
 | ty n=>cases ez
def mY:List TE->Str->TE
 | [],acc,_,H,Q=>acc.length<=sM/\Q (.str acc) H
 | t :: ts,acc,σ,H,Q=>t σ H λx H1=>∃y,x = .str y/\(acc++y).length<=sM/\mY ts (acc++y) σ H1 Q
def PFs (X:Cx):List Expr->List TE->Prop
 | [],[]=>True
 | e :: es,t :: ts=>PE X e t/\PFs X es ts
 | _,_=>False
theorem ie:PFs X [] []:=trivial
theorem cv {e:Expr}{es:List Expr}{t:TE}{ts:List TE}(h:PE X e t)(hs:PFs X es ts):PFs X (e :: es) (t :: ts):=⟨h,hs⟩
theorem i5 {pins:List (Addr×Obj)}{σ:St}{Q:VK}:∀{es:List Expr} {ts:List TE} {acc:Str} {H:Hp} {s:sL},PFs X es ts->Inv X pins σ H s->mY ts acc σ H Q->Joins (tN X.prog X.w) X.A X.xe (evalEach es X.env) acc (λout s1=>out.length<=sM/\EP X pins σ Q (.str out s1.toks) { s1 with toks:=s1.toks+1 }) s
 | [],[],acc,H,s,_,I,q=>⟨q.1,.str acc,H,I.tok _,⟨_,rfl⟩,q.2⟩
 | e :: es,t :: ts,acc,H,s,p,I,q=>thn (p.1 pins s σ H _ I q) λv s1 z=>by
  obtain ⟨x,H1,I1,r1,y,rfl,hl,q1⟩:=z
  obtain ⟨tk,rfl⟩:=r1
  exact ⟨y,tk,rfl,hl,i5 p.2 I1 q1⟩
 | [],_ :: _,_,_,_,p,_,_=>p.elim
 | _ :: _,[],_,_,_,p,_,_=>p.elim
theorem ig {e1 e2:Expr}{es:List Expr}{ts:List TE}{pos:Pos}(h:PFs X (e1 :: e2 :: es) ts):PE X (.JoinedStr (e1 :: e2 :: es) pos) (mY ts Str.empty):=λpins s σ H Q I q=>wpAny_JoinedStr (i5 h I q)
end
open PySem PySem.Spec PyProof.Rows
section
variable  {X:Cx}
end
theorem mZ {X:Cx}{k:Nat}(hr:bD k X.A):OpR X (uW .NotEq) (λx y H Q=>∃(a b:Addr) (xs:List V),x = .ref a/\y = .ref b/\H a=some (.lst xs)/\H b=some (.lst [])/\(xs=[]->Q (.bl false) H)/\(xs≠[]->Q (.bl true) H)):=by
 intro pins s σ H x y v u Q I rx ry h
 obtain ⟨a,b,xs,rfl,rfl,h1,h2,q0,q1⟩:=h
 cases (show v=tH a from rx)
 cases (show u=tH b from ry)
 obtain ⟨i1,r1,p1,_⟩:=I.list (SqL.of (K:=X.K) h1)
 obtain ⟨i2,r2,p2,_⟩:=I.list (SqL.of (K:=X.K) h2)
 have l1:=r1.length
 have l2:=r2.length
 rw[vK] at l2
 have hu:=hr.un
 have hu1:X.A.units<cLine:=by omega
 by_cases c:xs=[]
 ·subst c
  rw[vK] at l1
  have R:=yz (A:=X.A) (e:=λ_=>true) p1.isList p2.isList (by rw[sO,sO];omega) hu1 (λj g1 _=>by rw[sO] at g1;omega)
  rw[sO, <- l1] at R
  exact R _ _ _ _ ⟨.bl false,H,I,rfl,q0 rfl⟩
 ·have:=vj.mpr c
  exact SeqAt.RcNeAt.lists_lengths (A:=X.A) p1.isList p2.isList (by simp;omega) hu1 _ _ _ _ ⟨.bl true,H,I,rfl,q1 c⟩
end L2
set_option maxHeartbeats 800000
namespace K02
open PySem L2
def top (i:Nat):Stmt:=PySem.Challenge.pw_ringfell_k02_webs_refused.main.body.getD i (.Pass ⟨0,0,0,0⟩)
abbrev fP:Stmt:=top 16
abbrev fQ:Stmt:=top 17
abbrev il:Stmt:=top 18
abbrev m5:Stmt:=top 19
abbrev fR:Stmt:=top 20
abbrev kj:Stmt:=top 22
abbrev m6:Stmt:=top 23
abbrev m7:Stmt:=top 24
abbrev m8:Stmt:=top 25
abbrev kn:Stmt:=top 27
abbrev jI:Stmt:=top 28
abbrev gI:Stmt:=top 29
abbrev jJ:Stmt:=top 30
abbrev fS:Stmt:=top 31
abbrev lK:Stmt:=top 32
structure Blt (mg:Str->Option sJ):Prop where
 b_bool:mg "bool" = none
 b_divmod:mg "divmod" = none
 b_enumerate:mg "enumerate" = none
 b_int:mg "int" = none
 b_isinstance:mg "isinstance" = none
 b_len:mg "len" = none
 b_list:mg "list" = none
 b_max:mg "max" = none
 b_min:mg "min" = none
 b_range:mg "range" = none
 b_sorted:mg "sorted" = none
 b_tuple:mg "tuple" = none
 b_ValueError:mg "ValueError" = none
theorem kq:uv "bool" = some (.type "bool"):=by decide +kernel
theorem q9:uv "divmod" = some (.builtin "divmod"):=by decide +kernel
theorem jK:uv "int" = some (.type "int"):=by decide +kernel
theorem ao:uv "isinstance" = some (.builtin "isinstance"):=by decide +kernel
theorem cG:uv "len" = some (.builtin "len"):=by decide +kernel
theorem ip:uv "list" = some (.type "list"):=by decide +kernel
theorem qQ:uv "max" = some (.builtin "max"):=by decide +kernel
theorem iq:uv "min" = some (.builtin "min"):=by decide +kernel
theorem gJ:uv "sorted" = some (.builtin "sorted"):=by decide +kernel
theorem fT:uv "tuple" = some (.type "tuple"):=by decide +kernel
theorem dj:uv "ValueError" = some (.type "ValueError"):=by decide +kernel
structure Cst (mg:Str->Option sJ):Prop where
 c_MOST_PLACES:∃t,mg "MOST_PLACES" = some (.int 40 t)
 c_MOST_TIES:∃t,mg "MOST_TIES" = some (.int 200 t)
abbrev sv:Stmt:=m5
abbrev m9:Stmt:=kj
abbrev pH:Stmt:=m6
abbrev pI:Stmt:=m7
abbrev pJ:Stmt:=m8
def inDef:Stmt->Stmt
 | .ClassDef _ _ _ b _ _ _ _ _ _ _=>b.getD 0 (.Pass ⟨0,0,0,0⟩)
 | s=>s
abbrev dv:Stmt:=inDef (top 2)
abbrev dw:Stmt:=inDef (top 3)
abbrev dy:Stmt:=inDef (top 4)
section
variable  {P:tj}{w:ud}{K:sI}{mg:Str->Option sJ}{base:Heap}{f:Addr}{fd:uh}
theorem sC {c A B:Prop}[Decidable c](hc:c)(h:A):if decide c=true then A else B:=by rw[decide_eq_true hc];exact aS h
end
def pK:Sp:=λvs H Q _=>∃a b:Int,vs=[.int a,.int b]/\∀t,H t=none->Q (.ref t) (upd H t (.tup ((nrm a b).map V.int)))
section
variable  {P:tj}{w:ud}{K:sI}{mg:Str->Option sJ}{base:Heap}{f:Addr}{fd:uh}
theorem sD:aP ["one", "other"] ["one", "other"] (au sv):=⟨rfl,rfl,rfl,by decide +kernel,rfl,by decide +kernel,by decide +kernel⟩
theorem sE (F:Fun K "tie_of" "tie_of" sv f fd)(mx:mg "max" = none)(mn:mg "min" = none):aZ P w K mg base CX0 1 f fd ["one", "other"] pK:=by
 refine F.ok sD (λvs H Q E h =>?_) (λcdv A outer s H vs Q E hr h =>?_)
 ·obtain ⟨a,b,rfl,_⟩:=h
  rfl
 obtain ⟨a,b,rfl,q⟩:=h
 refine ⟨_,av (bu (bg (aa (aq (eh rfl) rfl mn iq (aa (pv 0) (aa (pv 1) ag))) (aa (aq (kU rfl) rfl mx qQ (aa (pv 0) (aa (pv 1) ag))) ag)))),?_⟩
 exact ⟨_,rfl,_,rfl,_,_,rfl,_,rfl,_,rfl,_,_,rfl,(by show 2<=sM;decide),λt ht=>q t ht⟩
end
def kr:Sp:=λvs H Q _=>∃c k:Int,vs=[.int c,.int k]/\0<=k/\k<=100/\∀v:Int,0<=v->Q (.int v) H
def nc:Sp:=λvs H Q _=>∃c:Int,vs=[.int c]/\∀(n:Int) (r:Addr),0<=n->H r=none->Q (.ref r) (upd H r (.lst [.int n]))
abbrev ku:Sp:=λvs H Q _=>∃(r:Addr) (m:Int),vs=[.ref r,.int m]/\Lf r H/\0<m/\m<2 ^ 200/\∀(d:Int) (H':Hp),0<=d->d<m->SB r H H'->Lf r H'->Q (.int d) H'
@[irreducible] def cH:Sp:=ku
theorem dz {vs:List V}{H:Hp}{Q:VK}{E:XK}:cH vs H Q E↔ku vs H Q E:=by
 delta cH
 exact wB
theorem bH {H:Hp}{Q:VK}{E:XK}{r:Addr}{m:Int}(l:Lf r H)(h0:0<m)(h1:m<2 ^ 200)(h:∀(d:Int) (H':Hp),0<=d->d<m->SB r H H'->Lf r H'->Q (.int d) H'):cH [.ref r,.int m] H Q E:=dz.mpr ⟨r,m,rfl,l,h0,h1,h⟩
structure cf (H:Hp)(l:Addr)(many:Int)(ts:List (Addr×Int×Int)):Prop where
 at':H l=some (.lst (ts.map λt =>.ref t.1))
 tup:∀t∈ts,H t.1=some (.tup [.int t.2.1,.int t.2.2])
 bnd:∀t∈ts,0<=t.2.1/\t.2.1<many/\0<=t.2.2/\t.2.2<many
theorem cf.same {H H':Hp}{l:Addr}{many:Int}{ts:List (Addr×Int×Int)}(h:cf H l many ts)(s:aB H H'):cf H' l many ts:=⟨s _ _ h.at',λt m=>s _ _ (h.tup t m),h.bnd⟩
theorem cf.sb {H H':Hp}{l r:Addr}{many:Int}{ts:List (Addr×Int×Int)}(h:cf H l many ts)(s:SB r H H')(lf:Lf r H)(n:l≠r):cf H' l many ts:=⟨s _ _ n h.at',λt m=>s _ _ (lf.neT (h.tup t m)) (h.tup t m),h.bnd⟩
abbrev kA:Sp:=λvs H Q _=>∃(r:Addr) (many most:Int),vs=[.ref r,.int many,.int most]/\Lf r H/\0<=many/\many<=1000/\0<=most/\most<=900 ∧
 ∀(l:Addr) (H':Hp) (ts:List (Addr×Int×Int)),H l=none->SB r H H'->Lf r H'->cf H' l many ts->(ts.length:Int)<=most->Q (.ref l) H'
@[irreducible] def ir:Sp:=kA
theorem dA {vs:List V}{H:Hp}{Q:VK}{E:XK}:ir vs H Q E↔kA vs H Q E:=by
 delta ir
 exact wB
section
variable  {P:tj}{w:ud}{K:sI}{mg:Str->Option sJ}{base:Heap}{f:Addr}{fd:uh}
theorem iu:aP ["cell", "k", "part"] ["cell", "k"] (au m9):=⟨rfl,rfl,rfl,by decide +kernel,rfl,by decide +kernel,by decide +kernel⟩
theorem oV (F:Fun K "_law_mixed" "_law_mixed" m9 f fd):aZ P w K mg base CX0 1 f fd ["cell", "k"] kr:=by
 refine F.ok iu (λvs H Q E h =>?_) (λcdv A outer s H vs Q E hr h =>?_)
 ·obtain ⟨c,k,rfl,_⟩:=h
  rfl
 obtain ⟨c,k,rfl,h0,h1,q⟩:=h
 refine ⟨_,ak (aG (i:=2) iu.nd rfl (Or.inl rfl) (aM fy (aM du (aM bQ (aM bQ (aM fy (pv 0) ah) (aM du ah (pv 1))) ah) ah) ah))
  (ak (aG (i:=2) iu.nd rfl (Or.inl rfl) (aM fy (aM du (pv 2) (pv 2)) ah))
  (av (bu (aM nQ (aM fy (aM du (aM bQ (pv 2) (pv 1)) ah) ah) ah)))),?_⟩
 refine ⟨_,rfl,_,_,rfl,rfl,(by show (0:Int)<_;decide),_,rfl,_,_,rfl,rfl,.inl ⟨by decide,by decide⟩,_,_,rfl,rfl,_,_,rfl,rfl,_,_,rfl,rfl,.inr ⟨by decide,by decide⟩,_,_,rfl,rfl,(by show (0:Int)<_;decide),?_⟩
 generalize ((c%1000000000000000009+7919*k+12345)*48271)=z1
 have b1:=wU z1 (b:=2305843009213693951) (by decide)
 have b2:=yA z1 (b:=2305843009213693951) (by decide)
 refine ⟨_,rfl,_,rfl,_,_,rfl,rfl,.inl ⟨by omega,by omega⟩,_,_,rfl,rfl,(by show (0:Int)<_;decide),?_⟩
 refine ⟨_,rfl,_,rfl,_,_,rfl,rfl,_,_,rfl,rfl,.inr ⟨by decide,by decide⟩,_,_,rfl,rfl,(by show (0:Int)<_;decide),_,_,rfl,rfl,⟨by decide,by decide⟩,?_⟩
 refine q _ ?_
 refine Int.ediv_nonneg (wU _ (by decide)) (by decide)
theorem iw:aP ["cell", "great", "k"] ["cell"] (au pH):=⟨rfl,rfl,rfl,by decide +kernel,rfl,by decide +kernel,by decide +kernel⟩
theorem qR (F:Fun K "_law_deal" "_law_deal" pH f fd)(C:Cal P w K mg base 1 "_law_mixed" ["cell", "k"] kr)(mr:mg "range" = none):aZ P w K mg base CX0 2 f fd ["cell"] nc:=by
 refine F.ok iw (λvs H Q E h =>?_) (λcdv A outer s H vs Q E hr h =>?_)
 ·obtain ⟨c,rfl,_⟩:=h
  rfl
 obtain ⟨c,rfl,q⟩:=h
 refine ⟨_,ak (bK (bq rF (pv 0) (aM gP ah ah) (bp _)) (av (bu (aF (aa (aM fx (pv 0) (aM gP ah ah)) ag)))) aW)
  (ak (aG (i:=1) iw.nd rfl (Or.inl rfl) ah)
  (ak (cP vw rfl (d7 rfl mr (aa ah ag)) (bb (i:=2) iw.nd rfl (Or.inl rfl))
   (av (aG (i:=1) iw.nd rfl (Or.inl rfl) (aM bQ (aM du (pv 1) ah) (aM fy (aD C hr (sS _) rfl (aa (pv 0) (aa (pv 2) ag))) ah)))))
  (av (bu (aF (aa (pv 1) ag)))))),?_⟩
 refine ⟨_,rfl,_,_,rfl,rfl,⟨by decide,by decide,by decide⟩,_,_,rfl,rfl,_,rfl,?_⟩
 refine rQ (λc1 =>?_) (λc1 =>?_)
 ·have c':(10:Int) ^ (18:Int).toNat<=c:=of_decide_eq_true c1
  refine ⟨_,rfl,_,_,rfl,rfl,⟨by decide,by decide,by decide⟩,_,_,rfl,rfl,(by show 1<=sM;decide),λp hp =>?_⟩
  exact q _ p (by omega) hp
 ·refine ⟨_,rfl,by decide,by decide,d8 (λk σ H'=>(∃(g:Int) (lv:Option V),0<=g/\σ=[some (.int c),some (.int g),lv])/\H'=H) ⟨⟨0,none,by decide,rfl⟩,rfl⟩ ?_ ?_⟩
  ·rintro k σ H' hk ⟨⟨g,lv,hg,rfl⟩,rfl⟩
   have hk':k<24:=hk
   refine ⟨_,rfl,_,_,rfl,rfl,.inr ⟨by decide,by decide⟩,_,rfl,_,rfl,c,0+(k:Int),rfl,by omega,by omega,λv hv =>?_⟩
   refine ⟨_,_,rfl,rfl,(by show (0:Int)<_;decide),_,_,rfl,rfl,⟨_,some (.int (0+k)),?_,rfl⟩,rfl⟩
   have a1:0<=g*1152921504606846976:=zo hg (by decide)
   have a2:=wU v (b:=1152921504606846976) (by decide)
   omega
  ·rintro σ H' ⟨⟨g,lv,hg,rfl⟩,rfl⟩
   exact ⟨_,rfl,(by show 1<=sM;decide),λp hp=>q g p hg hp⟩
theorem ng:aP ["left", "many", "digit"] ["left", "many"] (au pI):=⟨rfl,rfl,rfl,by decide +kernel,rfl,by decide +kernel,by decide +kernel⟩
theorem qS (F:Fun K "_law_next" "_law_next" pI f fd)(md:mg "divmod" = none):aZ P w K mg base CX0 1 f fd ["left", "many"] cH:=by
 refine F.ok ng (λvs H Q E h =>?_) (λcdv A outer s H vs Q E hr h =>?_)
 ·obtain ⟨l,m,rfl,_⟩:=dz.mp h
  rfl
 obtain ⟨l,m,rfl,⟨n,hl⟩,h0,h1,q⟩:=dz.mp h
 refine ⟨_,ak (jj (aq gZ rfl md (by decide +kernel) (aa (b8 bE (pv 0) ah (λ_ _=>rfl)) (aa (pv 1) ag))) (gO rfl (bO (pV (pv 0) ah set_list) (bO (bb (i:=2) ng.nd rfl (Or.inl rfl)) fc))))
  (av (bu (pv 2))),?_⟩
 refine ⟨_,rfl,l,_,0,_,rfl,rfl,SqL.of hl,rfl,_,rfl,n,m,rfl,⟨h0,h1⟩,λp hp =>?_⟩
 have ne:l≠p:=aj hl hp
 refine ⟨p,_,rfl,SqT.of ae,rfl,_,_,rfl,_,rfl,l,[.int n],0,0,rfl,rfl,(by rw[ai ne];exact hl),rfl,_,_,rfl,rfl,_,rfl,?_⟩
 exact q _ _ (wU _ (by omega)) (yA _ h0) ((SB.new hp _).trans (SB.put _)) ⟨_,ae⟩
theorem iy:aP ["left", "many", "most", "ties", "reach", "k"] ["left", "many", "most"] (au pJ):=⟨rfl,rfl,rfl,by decide +kernel,rfl,by decide +kernel,by decide +kernel⟩
theorem qT (F:Fun K "_law_ties" "_law_ties" pJ f fd)(mr:mg "range" = none)(mn:mg "min" = none)(C:Cal P w K mg base 1 "_law_next" ["left", "many"] cH):aZ P w K mg base CX0 2 f fd ["left", "many", "most"] ir:=by
 refine F.ok iy (λvs H Q E h =>?_) (λcdv A outer s H vs Q E hr h =>?_)
 ·obtain ⟨a,b,c,rfl,_⟩:=dA.mp h
  rfl
 obtain ⟨r,many,most,rfl,lf,h0,h1,m0,m1,q⟩:=dA.mp h
 refine ⟨_,ak (aG (i:=3) iy.nd rfl (Or.inl rfl) (aF ag))
  (ak (bK (bq jR (pv 1) ah (bp _))
   (ak (aG (i:=4) iy.nd rfl (Or.inl rfl) (b8 bE (aF (aa (pv 1) (aa (aq (eh rfl) rfl mn iq (aa (pv 1) (aa ah ag))) (aa (aq (eh rfl) rfl mn iq (aa (pv 1) (aa ah ag))) ag))))
     (aD C hr (sS _) rfl (aa (pv 0) (aa ah ag))) (λ_ _=>rfl)))
    (av (cP vw rfl (d7 rfl mr (aa (aD C hr (sS _) rfl (aa (pv 0) (aa (aM bQ (pv 2) ah) ag))) ag)) (bb (i:=5) iy.nd rfl (Or.inl rfl))
     (av (cV (jW vB PySem.F.slot_list_append PySem.F.type_list_append kZ (pv 3) (aa (bg (aa (aD C hr (sS _) rfl (aa (pv 0) (aa (pv 4) ag)))
      (aa (aM bQ (aM fx (pv 1) (pv 4)) (aD C hr (sS _) rfl (aa (pv 0) (aa (pv 4) ag)))) ag))) ag))))))) aW)
  (av (bu (pv 3)))),?_⟩
 refine ⟨(by show 0<=sM;decide),λl hl =>?_⟩
 have nl:l≠r:=lf.ne hl
 have t0:cf (upd H l (.lst [])) l many []:=⟨ae,λt z=>(by cases z),λt z=>(by cases z)⟩
 have s0:SB r H (upd H l (.lst [])):=SB.new hl _
 have lf0:Lf r (upd H l (.lst [])):=lf.same (af hl _)
 generalize upd H l (.lst [])=H0 at t0 s0 lf0
 refine ⟨_,rfl,_,_,rfl,rfl,_,rfl,rQ (λc =>?_) (λc =>?_)⟩
 case refine_2=>exact ⟨_,rfl,q l H0 [] hl s0 lf0 t0 m0⟩
 have hp:0<many:=of_decide_eq_true c
 refine ⟨_,rfl,_,rfl,_,_,rfl,_,rfl,_,_,rfl,(by show 3<=sM;decide),λp hp1 =>?_⟩
 have np:p≠r:=lf0.ne hp1
 refine ⟨_,rfl,bH (lf0.same (af hp1 _)) (by decide) (by decide) λd H2 d0 d1 sb2 lf2 =>?_⟩
 have hp2:=sb2 _ _ np (ae (H:=H0))
 have t2:=(t0.same (af hp1 _)).sb sb2 (lf0.same (af hp1 _)) nl
 have s2:SB r H H2:=s0.trans ((SB.new hp1 _).trans sb2)
 have rc:∃reach:Int,0<reach/\reach<=many/\atI [V.int many,.int (if 4<many then 4 else many),.int (if 7<many then 7 else many)] d=some (.int reach):=by
  have hd:d=0\/d=1\/d=2:=by omega
  rcases hd with e | e | e <;> subst e
  ·exact ⟨_,hp,by omega,rfl⟩
  ·exact ⟨_,(by split <;> omega),(by split <;> omega),rfl⟩
  ·exact ⟨_,(by split <;> omega),(by split <;> omega),rfl⟩
 obtain ⟨reach,rp,rm,er⟩:=rc
 refine ⟨p,_,d,_,rfl,rfl,SqL.of hp2,er,?_⟩
 refine ⟨_,rfl,_,rfl,_,_,rfl,rfl,bH lf2 (by omega) (by omega) λn H3 n0 n1 sb3 lf3 =>?_⟩
 have t3:=t2.sb sb3 lf2 nl
 refine ⟨n,rfl,by omega,by omega,d8 (λk σ H'=>(∃lv,σ=[some (.ref r),some (.int many),some (.int most),some (.ref l),some (.int reach),lv])/\SB r H H'/\Lf r H'/\∃ts,cf H' l many ts/\ts.length=k) ⟨⟨none,rfl⟩,s2.trans sb3,lf3,[],t3,rfl⟩ ?_ ?_⟩
 ·rintro k σ H' hk ⟨⟨lv,rfl⟩,s',lf',ts,t',lk⟩
  refine ⟨_,rfl,.inl ⟨rfl,_,SqL.of t'.at'⟩,_,rfl,_,rfl,bH lf' rp (by omega) λa H4 a0 a1 sb4 lf4=>⟨_,rfl,_,rfl,_,_,rfl,rfl,_,rfl,_,rfl,bH lf4 rp (by omega) λb H5 b0 b1 sb5 lf5=>⟨_,_,rfl,rfl,(by show 2<=sM;decide),λt ht =>?_⟩⟩⟩
  have t5:=((t'.sb sb4 lf' nl).sb sb5 lf4 nl)
  have t6:=t5.same (af ht (.tup [.int a,.int (many-reach+b)]))
  have nt:t≠l:=vf (aj t5.at' ht)
  refine ⟨l,_,_,rfl,rfl,t6.at',(by rw[t7];exact cZ (by omega)),⟨_,rfl⟩,?_,?_,ts++[(t,a,many-reach+b)],⟨?_,?_,?_⟩,by rw[tw,lk];rfl⟩
  ·exact λb u nb e=>by rw[ai (aj e hl)];exact (s'.trans (sb4.trans (sb5.trans (SB.new ht _)))) b u nb e
  ·obtain ⟨n5,e5⟩:=lf5
   exact ⟨n5,by rw[ai (vf nl),ai (vf (Lf.ne ⟨n5,e5⟩ ht))];exact e5⟩
  ·rw[ae,wV]
   rfl
  ·intro x hx
   have nx:∀{x:Addr} {xs:List V},upd H5 t (.tup [.int a,.int (many-reach+b)]) x=some (.tup xs)->upd (upd H5 t (.tup [.int a,.int (many-reach+b)])) l (.lst (ts.map (λt=>V.ref t.1)++[.ref t])) x=some (.tup xs):=λ{x xs} e=>by
    rw[ai (lS e t6.at' (by intro z;cases z))];exact e
   rcases tO.mp hx with z | z
   ·exact nx (t6.tup x z)
   ·have e:x=(t,a,many-reach+b):=by simpa using z
    rw[e]
    exact nx ae
  ·intro x hx
   rcases tO.mp hx with z | z
   ·exact t6.bnd x z
   ·have e:x=(t,a,many-reach+b):=by simpa using z
    rw[e]
    refine ⟨a0,?_,?_,?_⟩ <;> simp only <;> omega
 ·rintro σ H' ⟨⟨lv,rfl⟩,s',lf',ts,t',lk⟩
  exact ⟨_,rfl,q l H' ts hl s' lf' t' (by omega)⟩
end
open PySem L2
theorem small {n:Nat}(h:n<=1000):n<=sM:=tM h (by decide)
inductive Inn (H:Hp):V->Prop
 | non:Inn H .non
 | bl (b:Bool):Inn H (.bl b)
 | int (i:Int):Inn H (.int i)
 | str (s:Str):Inn H (.str s)
 | tup {a:Addr} {xs:List V} (e:H a=some (.tup xs)):Inn H (.ref a)
theorem Inn.tp {H H':Hp}(t:Tp H H'){x:V}(h:Inn H x):Inn H' x:=by
 cases h with
 | non=>exact .non
 | bl b=>exact .bl b
 | int i=>exact .int i
 | str s=>exact .str s
 | tup e=>exact .tup (t _ _ e)
inductive Flt (H:Hp):V->Prop
 | non:Flt H .non
 | bl (b:Bool):Flt H (.bl b)
 | int (i:Int):Flt H (.int i)
 | str (s:Str):Flt H (.str s)
 | dic {a:Addr} {kvs:List (Key×V)} (e:H a=some (.dK kvs)):Flt H (.ref a)
theorem Flt.bT {H H':Hp}{x:V}(k:∀a u,x = .ref a->H a=some u->H' a=some u)(h:Flt H x):Flt H' x:=by
 cases h with
 | non=>exact .non
 | bl b=>exact .bl b
 | int i=>exact .int i
 | str s=>exact .str s
 | dic e=>exact .dic (k _ _ rfl e)
def wh:V->Bool
 | .int _=>true
 | _=>false
def pl (m:Int):V->Bool
 | .int i=>decide (0<=i) && decide (i<m)
 | _=>false
inductive Itm (H:Hp)(m:Int):V->Bool->Prop
 | flat {x:V} (t:Flt H x):Itm H m x false
 | len {a:Addr} {xs:List V} (e:H a=some (.lst xs)\/H a=some (.tup xs)) (n:xs.length≠2):Itm H m (.ref a) false
 | pr {a:Addr} {x y:V} {b:Bool} (e:H a=some (.lst [x,y])\/H a=some (.tup [x,y])) (hx:Inn H x) (hy:Inn H y) (hb:(pl m x && pl m y)=b):Itm H m (.ref a) b
theorem Itm.bT {H H':Hp}{m:Int}{x:V}{b:Bool}(t:Tp H H')(k:∀a u,x = .ref a->H a=some u->H' a=some u)(h:Itm H m x b):Itm H' m x b:=by
 cases h with
 | flat f=>exact .flat (f.bT k)
 | len e n=>exact .len (e.imp (k _ _ rfl) (k _ _ rfl)) n
 | pr e hx hy hb=>exact .pr (e.imp (k _ _ rfl) (k _ _ rfl)) (hx.tp t) (hy.tp t) hb
theorem Itm.same {H H':Hp}{m:Int}{x:V}{b:Bool}(s:aB H H')(h:Itm H m x b):Itm H' m x b:=h.bT s.tp λa u _ e=>s a u e
structure fU (H:Hp)(m:Int)(xs:List V)(k:Nat):Prop where
 le:k<=xs.length
 yes:∀j x,j<k->xs[j]? = some x->Itm H m x true
 no:∀x,xs[k]? = some x->Itm H m x false
theorem fU.same {H H':Hp}{m:Int}{xs:List V}{k:Nat}(h:fU H m xs k)(s:aB H H'):fU H' m xs k:=⟨h.le,λj x a e=>(h.yes j x a e).same s,λx e=>(h.no x e).same s⟩
theorem dB {H:Hp}{x:V}(h:∀a,x = .ref a->(∃xs,H a=some (.lst xs))\/(∃xs,H a=some (.tup xs))\/∃kvs,H a=some (.dK kvs)):∀a C dx fs,H a=some (.ins C dx fs)->x ≠ .ref a:=by
 intro a C dx fs e z
 rcases h a z with ⟨xs,q⟩ | ⟨xs,q⟩ | ⟨xs,q⟩ <;> rw[q] at e <;> cases e
theorem jL {K:sI}{H:Hp}{x:V}(h:Flt H x):(∃t,bW K H x t/\PySem.W.kitAny K t (["list", "tuple"].map v7)=some false)/\(∃t b1 b2,bW K H x t/\PySem.W.kitOne K t (.type "int")=some b1/\PySem.W.kitOne K t (.type "bool")=some b2/\(b1 && !b2)=wh x)/\∀a C dx fs,H a=some (.ins C dx fs)->x ≠ .ref a:=by
 cases h with
 | non=>exact ⟨⟨_,.non,rfl⟩,⟨_,_,_,.non,rfl,rfl,rfl⟩,dB λa e=>by cases e⟩
 | bl b=>exact ⟨⟨_,.bl b,rfl⟩,⟨_,_,_,.bl b,rfl,rfl,rfl⟩,dB λa e=>by cases e⟩
 | int i=>exact ⟨⟨_,.int i,rfl⟩,⟨_,_,_,.int i,rfl,rfl,rfl⟩,dB λa e=>by cases e⟩
 | str s=>exact ⟨⟨_,.str s,rfl⟩,⟨_,_,_,.str s,rfl,rfl,rfl⟩,dB λa e=>by cases e⟩
 | dic e=>exact ⟨⟨_,.dK e,rfl⟩,⟨_,_,_,.dK e,rfl,rfl,rfl⟩,dB λa z=>by cases z;exact .inr (.inr ⟨_,e⟩)⟩
theorem iz {K:sI}{H:Hp}{a:Addr}{xs:List V}(h:H a=some (.lst xs)\/H a=some (.tup xs)):(∃t,bW K H (.ref a) t/\PySem.W.kitAny K t (["list", "tuple"].map v7)=some true)/\(∃t b1 b2,bW K H (.ref a) t/\PySem.W.kitOne K t (.type "int")=some b1/\PySem.W.kitOne K t (.type "bool")=some b2/\(b1 && !b2)=false)/\∀a' C dx fs,H a'=some (.ins C dx fs)->V.ref a ≠ .ref a':=by
 rcases h with e | e
 ·exact ⟨⟨_,.lst e,rfl⟩,⟨_,_,_,.lst e,rfl,rfl,rfl⟩,dB λa z=>by cases z;exact .inl ⟨_,e⟩⟩
 ·exact ⟨⟨_,.tup e,rfl⟩,⟨_,_,_,.tup e,rfl,rfl,rfl⟩,dB λa z=>by cases z;exact .inr (.inl ⟨_,e⟩)⟩
@[irreducible] def dX (K:sI):Sp:=λvs H Q _=>∃(x:V) (t:sJ) (b1 b2:Bool),vs=[x]/\bW K H x t/\PySem.W.kitOne K t (.type "int")=some b1/\PySem.W.kitOne K t (.type "bool")=some b2/\Q (.bl (b1 && !b2)) H
theorem ba {K:sI}{vs:List V}{H:Hp}{Q:VK}{E:XK}:dX K vs H Q E↔∃(x:V) (t:sJ) (b1 b2:Bool),vs=[x]/\bW K H x t/\PySem.W.kitOne K t (.type "int")=some b1/\PySem.W.kitOne K t (.type "bool")=some b2/\Q (.bl (b1 && !b2)) H:=by
 delta dX
 exact wB
section
variable  {P:tj}{w:ud}{K:sI}{mg:Str->Option sJ}{base:Heap}{f T:Addr}{fd:uh}
theorem lL:aP ["thing"] ["thing"] (au fP):=⟨rfl,rfl,rfl,by decide +kernel,rfl,by decide +kernel,by decide +kernel⟩
theorem lN (F:Fun K "is_whole" "is_whole" fP f fd)(B:Blt mg)(C:Cst mg):aZ P w K mg base CX0 1 f fd ["thing"] (dX K):=by
 refine F.ok lL (λvs H Q E h =>?_) (λcdv A outer s H vs Q E hr h =>?_)
 ·obtain ⟨_,_,_,_,rfl,_⟩:=ba.mp h
  rfl
 obtain ⟨x,t,b1,b2,rfl,ty,k1,k2,q⟩:=ba.mp h
 refine ⟨_,(@av _ _ _ (@bu _ _ _ _ (ji (aq cQ rfl B.b_isinstance ao (@aa _ _ _ _ _ (pv 0) (@aa _ _ _ _ _ (bV (v :=.ty "int") rfl B.b_int jK rfl) ag rfl) rfl)) (jh (pS (aq cQ rfl B.b_isinstance ao (@aa _ _ _ _ _ (pv 0) (@aa _ _ _ _ _ (bV (v :=.ty "bool") rfl B.b_bool kq rfl) ag rfl) rfl))))))),?_⟩
 refine ⟨_,rfl,x, "int",t,b1,rfl,ty,k1,_,rfl,?_⟩
 cases b1 with
 | false=>exact aR q
 | true=>exact aS ⟨_,rfl,x, "bool",t,b2,rfl,ty,k2,_,rfl,q⟩
end
abbrev i6:Sp:=λvs H Q _=>∃(m:Int) (x:V),vs=[.int m,x]/\Inn H x/\Q (.bl (pl m x)) H
@[irreducible] def fk:Sp:=i6
theorem cn {vs:List V}{H:Hp}{Q:VK}{E:XK}:fk vs H Q E↔i6 vs H Q E:=by
 delta fk
 exact wB
theorem qU {K:sI}{H:Hp}{x:V}(h:Inn H x):∃t b1 b2,bW K H x t/\PySem.W.kitOne K t (.type "int")=some b1/\PySem.W.kitOne K t (.type "bool")=some b2/\(b1 && !b2)=wh x:=by
 cases h with
 | non=>exact ⟨_,_,_,.non,rfl,rfl,rfl⟩
 | bl b=>exact ⟨_,_,_,.bl b,rfl,rfl,rfl⟩
 | int i=>exact ⟨_,_,_,.int i,rfl,rfl,rfl⟩
 | str s=>exact ⟨_,_,_,.str s,rfl,rfl,rfl⟩
 | tup e=>exact ⟨_,_,_,.tup e,rfl,rfl,rfl⟩
section
variable  {P:tj}{w:ud}{K:sI}{mg:Str->Option sJ}{base:Heap}{f T:Addr}{fd:uh}
theorem lO:aP ["many", "thing"] ["many", "thing"] (au fQ):=⟨rfl,rfl,rfl,by decide +kernel,rfl,by decide +kernel,by decide +kernel⟩
theorem lP (F:Fun K "is_place" "is_place" fQ f fd)(B:Blt mg)(cIsWhole:Cal P w K mg base 1 "is_whole" ["thing"] (dX K))(C:Cst mg):aZ P w K mg base CX0 2 f fd ["many", "thing"] fk:=by
 refine F.ok lO (λvs H Q E h =>?_) (λcdv A outer s H vs Q E hr h =>?_)
 ·obtain ⟨_,_,rfl,_⟩:=cn.mp h
  rfl
 obtain ⟨m,x,rfl,hx,q⟩:=cn.mp h
 refine ⟨_,(@av _ _ _ (@bu _ _ _ _ (ji (aD cIsWhole hr (by decide) rfl (@aa _ _ _ _ _ (pv 1) ag rfl)) (jh (l6 l4 rE ah (pv 1) (pv 0)))))),?_⟩
 obtain ⟨t,b1,b2,ty,k1,k2,e⟩:=qU (K:=K) hx
 refine ⟨_,rfl,ba.mpr ⟨x,t,b1,b2,rfl,ty,k1,k2,_,rfl,?_⟩⟩
 rw[e]
 cases x with
 | int i =>
  refine aS ⟨_,rfl,0,i,rfl,rfl,_,rfl,?_⟩
  have q':Q (.bl (decide (0<=i) && decide (i<m))) H:=q
  by_cases c:(0:Int)<=i
  ·rw[decide_eq_true c] at q' ⊢
   exact aS ⟨_,rfl,i,m,rfl,rfl,q'⟩
  ·rw[decide_eq_false c] at q' ⊢
   exact aR q'
 | _=>exact aR q
end
abbrev kC:Sp:=λvs H Q _=>∃(m:Int) (x:V) (b:Bool),vs=[.int m,x]/\Itm H m x b/\∀H',aB H H'->Q (.bl b) H'
@[irreducible] def iA:Sp:=kC
theorem cI {vs:List V}{H:Hp}{Q:VK}{E:XK}:iA vs H Q E↔kC vs H Q E:=by
 delta iA
 exact wB
section
variable  {P:tj}{w:ud}{K:sI}{mg:Str->Option sJ}{base:Heap}{f T:Addr}{fd:uh}
theorem ni:aP ["many", "thing"] ["many", "thing"] (au il):=⟨rfl,rfl,rfl,by decide +kernel,rfl,by decide +kernel,by decide +kernel⟩
theorem nj (F:Fun K "is_pair" "is_pair" il f fd)(B:Blt mg)(cIsPlace:Cal P w K mg base 2 "is_place" ["many", "thing"] fk)(C:Cst mg):aZ P w K mg base CX0 3 f fd ["many", "thing"] iA:=by
 refine F.ok ni (λvs H Q E h =>?_) (λcdv A outer s H vs Q E hr h =>?_)
 ·obtain ⟨_,_,_,rfl,_⟩:=cI.mp h
  rfl
 obtain ⟨m,x,b,rfl,hx,q⟩:=cI.mp h
 refine ⟨_,(@ak _ _ _ _ _ (@bK _ _ _ _ _ _ _ _ (PW.pt (gh (bZ (bG (aq dI rfl B.b_isinstance ao (@aa _ _ _ _ _ (pv 1) (@aa _ _ _ _ _ (@bg _ _ _ _ _ (@aa _ _ _ _ _ (bV (v :=.ty "list") rfl B.b_list ip rfl) (@aa _ _ _ _ _ (bV (v :=.ty "tuple") rfl B.b_tuple fT rfl) ag rfl) rfl)) ag rfl) rfl)))) (gN (bq lZ (aq aT rfl B.b_len cG (@aa _ _ _ _ _ (pv 1) ag rfl)) ah (bp _))))) (@av _ _ _ (@bu _ _ _ _ eM)) aW)
  (@av _ _ _ (@bu _ _ _ _ (ji (aD cIsPlace hr (by decide) rfl (@aa _ _ _ _ _ (pv 0) (@aa _ _ _ _ _ (@b8 _ _ _ _ _ _ _ (fg (K:=K)) (pv 1) ah (λ_ _=>rfl)) ag rfl) rfl)) (jh (aD cIsPlace hr (by decide) rfl (@aa _ _ _ _ _ (pv 0) (@aa _ _ _ _ _ (@b8 _ _ _ _ _ _ _ (fg (K:=K)) (pv 1) ah (λ_ _=>rfl)) ag rfl) rfl))))))),?_⟩
 refine ⟨_,rfl,(by show 2<=sM;decide),λp hp =>?_⟩
 have s0:=af hp (.tup [.ty "list",.ty "tuple"])
 have hx:=hx.same s0
 have ep:SqT K (upd H p (.tup [.ty "list",.ty "tuple"])) p (["list", "tuple"].map V.ty):=SqT.of ae
 generalize upd H p (.tup [.ty "list",.ty "tuple"])=H1 at s0 ep hx
 have q1:=λb' (e:b'=b)=>e ▸ q _ s0
 cases hx with
 | flat f =>
  obtain ⟨⟨t,ty,k⟩,_,n⟩:=jL (K:=K) f
  exact ⟨x,p,_,t,false,rfl,ep,ty,n,k,_,rfl,aS (q1 _ rfl)⟩
 | @len a xs e n =>
  obtain ⟨⟨t,ty,k⟩,_,n'⟩:=iz (K:=K) e
  refine ⟨.ref a,p,_,t,true,rfl,ep,ty,n',k,_,rfl,aR ⟨_,rfl,a,xs,rfl,e.imp SqL.of SqT.of,rfl,_,rfl,?_⟩⟩
  rw[decide_eq_false (λz=>n (by have:=V.int.inj z;omega))]
  exact aS (q1 _ rfl)
 | @pr a x y b e hix hiy hb =>
  obtain ⟨⟨t,ty,k⟩,_,n'⟩:=iz (K:=K) e
  refine ⟨.ref a,p,_,t,true,rfl,ep,ty,n',k,_,rfl,aR ⟨_,rfl,a,_,rfl,e.imp SqL.of SqT.of,rfl,_,rfl,ph rfl ?_⟩⟩
  have ix:∀(i:Nat) (v:V) (Q:VK),([x,y]:List V)[i]? = some v->Q v H1->rIx K (.ref a) (.int (i:Int)) H1 Q:=λi v Q e' h=>by
   rcases e with z | z
   ·exact .inl ⟨a,_,(i:Int),v,rfl,rfl,SqL.of z,cY e',h⟩
   ·exact .inr (.inl ⟨a,_,(i:Int),v,rfl,rfl,SqT.of z,cY e',h⟩)
  refine ⟨_,rfl,_,rfl,ix 0 x _ rfl (cn.mpr ⟨m,x,rfl,hix,_,rfl,?_⟩)⟩
  cases c:pl m x with
  | false=>rw[c] at hb;exact aR (q1 _ hb)
  | true=>rw[c] at hb;exact aS ⟨_,rfl,_,rfl,ix 1 y _ rfl (cn.mpr ⟨m,y,rfl,hiy,q1 _ hb⟩)⟩
end
open PySem L2
def nk (K:sI)(cs:List Addr)(W:Addr):Bool:=(wL cs.length).all λi=>((wL cs.length).all λj=>PySem.W.kitOne K (.ref (cs.getD i 0)) (.ref (cs.getD j 0)) == some (i == j)) && PySem.W.kitOne K (.ref (cs.getD i 0)) (.type "ValueError") == some true && PySem.W.kitOne K (.ref (cs.getD i 0)) (.ref W) == some true
theorem fq {K:sI}{cs:List Addr}{W:Addr}(h:nk K cs W=true){i:Nat}(hi:i<cs.length):(∀j,j<cs.length->PySem.W.kitOne K (.ref (cs.getD i 0)) (.ref (cs.getD j 0))=some (i == j))/\PySem.W.kitOne K (.ref (cs.getD i 0)) (.type "ValueError")=some true/\PySem.W.kitOne K (.ref (cs.getD i 0)) (.ref W)=some true:=by
 have a:=vn.mp h i (xn.mpr hi)
 simp only[uo,beq_iff_eq] at a
 obtain ⟨⟨a1,a2⟩,a3⟩:=a
 exact ⟨λj hj=>beq_iff_eq.mp (vn.mp a1 j (xn.mpr hj)),a2,a3⟩
structure Exs (K:sI)(mg:Str->Option sJ)(c_WebError c_BadWeb c_NoStep c_NoText c_TooMany c_NoTie c_NoRing c_NotClear c_NotThree c_BadBoard c_NoRow c_NoBack:Addr):Prop where
 x_WebError:mg "WebError" = some (.ref c_WebError)
 x_BadWeb:mg "BadWeb" = some (.ref c_BadWeb)
 x_NoStep:mg "NoStep" = some (.ref c_NoStep)
 x_NoText:mg "NoText" = some (.ref c_NoText)
 x_TooMany:mg "TooMany" = some (.ref c_TooMany)
 x_NoTie:mg "NoTie" = some (.ref c_NoTie)
 x_NoRing:mg "NoRing" = some (.ref c_NoRing)
 x_NotClear:mg "NotClear" = some (.ref c_NotClear)
 x_NotThree:mg "NotThree" = some (.ref c_NotThree)
 x_BadBoard:mg "BadBoard" = some (.ref c_BadBoard)
 x_NoRow:mg "NoRow" = some (.ref c_NoRow)
 x_NoBack:mg "NoBack" = some (.ref c_NoBack)
 xi_BadWeb:L2.bY K c_BadWeb=true
 xi_NoStep:L2.bY K c_NoStep=true
 xi_NoText:L2.bY K c_NoText=true
 xi_TooMany:L2.bY K c_TooMany=true
 xi_NoTie:L2.bY K c_NoTie=true
 xi_NoRing:L2.bY K c_NoRing=true
 xi_NotClear:L2.bY K c_NotClear=true
 xi_NotThree:L2.bY K c_NotThree=true
 xi_BadBoard:L2.bY K c_BadBoard=true
 xi_NoRow:L2.bY K c_NoRow=true
 xi_NoBack:L2.bY K c_NoBack=true
 xn_BadWeb:L2.i4 K c_BadWeb "at" = true
 xn_NoStep:L2.i4 K c_NoStep "at" = true
 xn_NoText:L2.i4 K c_NoText "at" = true
 xe_TooMany:PySem.W.excIn K c_TooMany L2.bA "ValueError.__new__" = true
 xe_NoTie:PySem.W.excIn K c_NoTie L2.bA "ValueError.__new__" = true
 xe_NoRing:PySem.W.excIn K c_NoRing L2.bA "ValueError.__new__" = true
 xe_NotClear:PySem.W.excIn K c_NotClear L2.bA "ValueError.__new__" = true
 xe_NotThree:PySem.W.excIn K c_NotThree L2.bA "ValueError.__new__" = true
 xe_BadBoard:PySem.W.excIn K c_BadBoard L2.bA "ValueError.__new__" = true
 xe_NoRow:PySem.W.excIn K c_NoRow L2.bA "ValueError.__new__" = true
 xe_NoBack:PySem.W.excIn K c_NoBack L2.bA "ValueError.__new__" = true
 kt:nk K [c_BadWeb,c_NoStep,c_NoText,c_TooMany,c_NoTie,c_NoRing,c_NotClear,c_NotThree,c_BadBoard,c_NoRow,c_NoBack] c_WebError=true
 xm_BadWeb:PySem.W.exmOne K (.ref c_BadWeb) (.ref c_WebError)=some true
 xo_BadWeb:PySem.W.kitAny K (.ref c_BadWeb) [.ref c_BadBoard,.ref c_NoBack,.ref c_NoRing,.ref c_NoRow,.ref c_NoStep,.ref c_NoText,.ref c_NoTie,.ref c_NotClear,.ref c_NotThree]=some false
 xm_TooMany:PySem.W.exmOne K (.ref c_TooMany) (.ref c_WebError)=some true
 xo_TooMany:PySem.W.kitAny K (.ref c_TooMany) [.ref c_BadBoard,.ref c_NoBack,.ref c_NoRing,.ref c_NoRow,.ref c_NoStep,.ref c_NoText,.ref c_NoTie,.ref c_NotClear,.ref c_NotThree]=some false
 w_ga:PySem.W.specialIn K (.ref c_WebError) "__getattribute__" = some (some (.builtin "type.__getattribute__"))
 w_rd:PySem.W.readsIn K c_WebError (.type "type")=true
 w_fd:PySem.W.findCls K (.ref c_WebError) (.type "type") "__init__" = some (.val (.builtin "ValueError.__init__"))
theorem Exs.w {K:sI}{mg:Str->Option sJ}{c_WebError c_BadWeb c_NoStep c_NoText c_TooMany c_NoTie c_NoRing c_NotClear c_NotThree c_BadBoard c_NoRow c_NoBack:Addr}(Z:Exs K mg c_WebError c_BadWeb c_NoStep c_NoText c_TooMany c_NoTie c_NoRing c_NotClear c_NotThree c_BadBoard c_NoRow c_NoBack):ExW K mg "WebError" c_WebError:=⟨Z.x_WebError,Z.w_ga,Z.w_rd,Z.w_fd⟩
abbrev nT (i:Int):Str:=Str.ofString (toString i)
theorem qV:∀n:Nat,n<402->(nT ((n:Int)-1)).length<=5:=by decide +kernel
theorem nz {i:Int}(h0 : -1<=i)(h1:i<=400):(nT i).length<=5:=by
 obtain ⟨n,e⟩:∃n:Nat,i=(n:Int)-1:=⟨(i+1).toNat,by omega⟩
 rw[e]
 exact qV n (by omega)
theorem shown_int {i:Int}(h0 : -1<=i)(h1:i<=400):shown (.int i)=some (nT i):=if_pos (xg (Nat.log2_le_self _) (by omega))
theorem bj (x y:Str):(x++y).length=x.length+y.length:=by
 show (x.cps++y.cps).size=_
 rw[vv];rfl
theorem kD {H1:Hp}{ea dx:Addr}{o1 o2 o3:HO}(h:H1 ea=none)(hd:upd H1 ea o1 dx=none)(n:dx≠ea):aB H1 (rm (upd (upd (upd H1 ea o1) dx o2) ea o3) ea)/\rm (upd (upd (upd H1 ea o1) dx o2) ea o3) ea dx=some o2:=by
 refine ⟨λb u e =>?_,?_⟩
 ·have n1:b≠ea:=aj e h
  have n2:b≠dx:=λz=>by
   rw[ai n] at hd
   rw[z,hd] at e;cases e
  rw[di n1,ai n1,ai n2,ai n1];exact e
 ·rw[di n,ai n,ae]
@[irreducible] def dk (C:Addr):Sp:=λvs H Q E=>∃(ea:Addr) (n:Int),vs=[.ref ea,.int n]/\H ea=some (az ea C none) /\ -1<=n/\n<=400/\∀dx,H dx=none->dx≠ea->Q .non (upd (upd H dx (.xd [("at",.int n)])) ea (az ea C (some dx)))
theorem aY {C:Addr}{vs:List V}{H:Hp}{Q:VK}{E:XK}:dk C vs H Q E↔∃(ea:Addr) (n:Int),vs=[.ref ea,.int n]/\H ea=some (az ea C none) /\ -1<=n/\n<=400/\∀dx,H dx=none->dx≠ea->Q .non (upd (upd H dx (.xd [("at",.int n)])) ea (az ea C (some dx))):=by
 delta dk
 exact wB
section
variable  {P:tj}{w:ud}{K:sI}{mg:Str->Option sJ}{base:Heap}{f:Addr}{fd:uh}{c_WebError c_BadWeb c_NoStep c_NoText c_TooMany c_NoTie c_NoRing c_NotClear c_NotThree c_BadBoard c_NoRow c_NoBack:Addr}
theorem i7:aP ["self", "at"] ["self", "at"] (au dv):=⟨rfl,rfl,rfl,by decide +kernel,rfl,by decide +kernel,by decide +kernel⟩
theorem i8 (F:Fun K "__init__" "BadWeb.__init__" dv f fd)(Z:Exs K mg c_WebError c_BadWeb c_NoStep c_NoText c_TooMany c_NoTie c_NoRing c_NotClear c_NotThree c_BadBoard c_NoRow c_NoBack):aZ P w K mg base CX0 1 f fd ["self", "at"] (dk c_BadWeb):=by
 refine F.ok i7 (λvs H Q E h =>?_) (λcdv A outer s H vs Q E hr h =>?_)
 ·obtain ⟨_,_,rfl,_⟩:=aY.mp h
  rfl
 obtain ⟨ea,n,rfl,he,n0,n1,q⟩:=aY.mp h
 obtain ⟨N,S⟩:=bJ Z.xn_BadWeb
 have l0:=nz n0 n1
 refine ⟨_,@ak _ _ _ _ _ (cV (eF (x := "WebError") Z.w rfl (@aa _ _ _ _ _ (pv 0) (@aa _ _ _ _ _ (ig (cv bC (cv (fO (pv 1)) ie))) ag rfl) rfl))) (@av _ _ _ (jF (pv 0) (pv 1) rfl)),?_⟩
 refine ⟨_,rfl,_,rfl,(by rw[bj];exact small (by decide)),_,rfl,nT n,shown_int n0 n1,small (by omega),nT n,rfl,(by rw[bj,bj];exact tM (uG l0 _) (small (by decide))),(by rw[bj,bj];exact tM (uG l0 _) (small (by decide))),ea,_,none,_,rfl,he,N,(by show 1<=sM;decide),?_⟩
 exact ⟨_,rfl,_,rfl,ea,_,rfl,he,N,S,q⟩
end
section
variable  {P:tj}{w:ud}{K:sI}{mg:Str->Option sJ}{base:Heap}{f:Addr}{fd:uh}{c_WebError c_BadWeb c_NoStep c_NoText c_TooMany c_NoTie c_NoRing c_NotClear c_NotThree c_BadBoard c_NoRow c_NoBack:Addr}
theorem i9:aP ["self", "at"] ["self", "at"] (au dw):=⟨rfl,rfl,rfl,by decide +kernel,rfl,by decide +kernel,by decide +kernel⟩
theorem ja (F:Fun K "__init__" "NoStep.__init__" dw f fd)(Z:Exs K mg c_WebError c_BadWeb c_NoStep c_NoText c_TooMany c_NoTie c_NoRing c_NotClear c_NotThree c_BadBoard c_NoRow c_NoBack):aZ P w K mg base CX0 1 f fd ["self", "at"] (dk c_NoStep):=by
 refine F.ok i9 (λvs H Q E h =>?_) (λcdv A outer s H vs Q E hr h =>?_)
 ·obtain ⟨_,_,rfl,_⟩:=aY.mp h
  rfl
 obtain ⟨ea,n,rfl,he,n0,n1,q⟩:=aY.mp h
 obtain ⟨N,S⟩:=bJ Z.xn_NoStep
 have l0:=nz n0 n1
 refine ⟨_,@ak _ _ _ _ _ (cV (eF (x := "WebError") Z.w rfl (@aa _ _ _ _ _ (pv 0) (@aa _ _ _ _ _ (ig (cv bC (cv (fO (pv 1)) ie))) ag rfl) rfl))) (@av _ _ _ (jF (pv 0) (pv 1) rfl)),?_⟩
 refine ⟨_,rfl,_,rfl,(by rw[bj];exact small (by decide)),_,rfl,nT n,shown_int n0 n1,small (by omega),nT n,rfl,(by rw[bj,bj];exact tM (uG l0 _) (small (by decide))),(by rw[bj,bj];exact tM (uG l0 _) (small (by decide))),ea,_,none,_,rfl,he,N,(by show 1<=sM;decide),?_⟩
 exact ⟨_,rfl,_,rfl,ea,_,rfl,he,N,S,q⟩
end
section
variable  {P:tj}{w:ud}{K:sI}{mg:Str->Option sJ}{base:Heap}{f:Addr}{fd:uh}{c_WebError c_BadWeb c_NoStep c_NoText c_TooMany c_NoTie c_NoRing c_NotClear c_NotThree c_BadBoard c_NoRow c_NoBack:Addr}
theorem jb:aP ["self", "at"] ["self", "at"] (au dy):=⟨rfl,rfl,rfl,by decide +kernel,rfl,by decide +kernel,by decide +kernel⟩
theorem jf (F:Fun K "__init__" "NoText.__init__" dy f fd)(Z:Exs K mg c_WebError c_BadWeb c_NoStep c_NoText c_TooMany c_NoTie c_NoRing c_NotClear c_NotThree c_BadBoard c_NoRow c_NoBack):aZ P w K mg base CX0 1 f fd ["self", "at"] (dk c_NoText):=by
 refine F.ok jb (λvs H Q E h =>?_) (λcdv A outer s H vs Q E hr h =>?_)
 ·obtain ⟨_,_,rfl,_⟩:=aY.mp h
  rfl
 obtain ⟨ea,n,rfl,he,n0,n1,q⟩:=aY.mp h
 obtain ⟨N,S⟩:=bJ Z.xn_NoText
 have l0:=nz n0 n1
 refine ⟨_,@ak _ _ _ _ _ (cV (eF (x := "WebError") Z.w rfl (@aa _ _ _ _ _ (pv 0) (@aa _ _ _ _ _ (ig (cv bC (cv (fO (pv 1)) ie))) ag rfl) rfl))) (@av _ _ _ (jF (pv 0) (pv 1) rfl)),?_⟩
 refine ⟨_,rfl,_,rfl,(by rw[bj];exact small (by decide)),_,rfl,nT n,shown_int n0 n1,small (by omega),nT n,rfl,(by rw[bj,bj];exact tM (uG l0 _) (small (by decide))),(by rw[bj,bj];exact tM (uG l0 _) (small (by decide))),ea,_,none,_,rfl,he,N,(by show 1<=sM;decide),?_⟩
 exact ⟨_,rfl,_,rfl,ea,_,rfl,he,N,S,q⟩
end
open PySem L2
inductive Bad (H:Hp):V->V->Prop
 | flt {M T:V} (f:Flt H M) (w:wh M=false):Bad H M T
 | sq {a:Addr} {xs:List V} {T:V} (e:H a=some (.lst xs)\/H a=some (.tup xs)):Bad H (.ref a) T
 | num {m:Int} {T:V} (h:m<0\/40<m):Bad H (.int m) T
 | row {m:Int} {T:V} (h0:0<=m) (h1:m<=40) (f:Flt H T):Bad H (.int m) T
@[irreducible] def iC (cB cT:Addr):Sp:=λvs H Q E=>∃(M T:V),vs=[M,T]/\((Bad H M T/\∀dx H',aB H H'->H' dx=some (.xd [("at",.int (-1))])->E (.ref cB) (some dx) H')\/∃(m:Int) (r:Addr) (xs:List V) (k:Nat),M = .int m/\0<=m/\m<=40/\T = .ref r/\H r=some (.lst xs)/\xs.length<=300/\fU H m xs k/\(k<xs.length->∀dx H',aB H H'->H' dx=some (.xd [("at",.int (k:Int))])->E (.ref cB) (some dx) H')/\(k=xs.length->200<xs.length->∀H',aB H H'->E (.ref cT) none H')/\(k=xs.length->xs.length<=200->∀v H',aB H H'->Q v H'))
theorem cJ {cB cT:Addr}{vs:List V}{H:Hp}{Q:VK}{E:XK}:iC cB cT vs H Q E↔∃(M T:V),vs=[M,T]/\((Bad H M T/\∀dx H',aB H H'->H' dx=some (.xd [("at",.int (-1))])->E (.ref cB) (some dx) H')\/∃(m:Int) (r:Addr) (xs:List V) (k:Nat),M = .int m/\0<=m/\m<=40/\T = .ref r/\H r=some (.lst xs)/\xs.length<=300/\fU H m xs k/\(k<xs.length->∀dx H',aB H H'->H' dx=some (.xd [("at",.int (k:Int))])->E (.ref cB) (some dx) H')/\(k=xs.length->200<xs.length->∀H',aB H H'->E (.ref cT) none H')/\(k=xs.length->xs.length<=200->∀v H',aB H H'->Q v H')):=by
 delta iC
 exact wB
def jM (H:Hp)(ys:List V)(us:List (Addr×List Int)):Prop:=ys=us.map (λu =>.ref u.1)/\∀u∈us,H u.1=some (.tup (u.2.map V.int))
theorem jM.add {H:Hp}{ys:List V}{us:List (Addr×List Int)}(h:jM H ys us){t:Addr}(ht:H t=none)(ns:List Int):jM (upd H t (.tup (ns.map V.int))) (ys++[.ref t]) (us++[(t,ns)]):=by
 refine ⟨by rw[h.1,wV];rfl,λu hu =>?_⟩
 rcases tO.mp hu with z | z
 ·rw[ai (aj (h.2 u z) ht)]
  exact h.2 u z
 ·have e:u=(t,ns):=by simpa using z
  rw[e]
  exact ae
theorem jM.same {H H':Hp}{ys:List V}{us:List (Addr×List Int)}(h:jM H ys us)(s:aB H H'):jM H' ys us:=⟨h.1,λu hu=>s _ _ (h.2 u hu)⟩
theorem nA {H:Hp}{m:Int}:∀xs:List V,(∀x∈xs,Itm H m x true)->∃ts:List (Addr×Int×Int),xs=ts.map (λt =>.ref t.1)/\∀t∈ts,H t.1=some (.lst [.int t.2.1,.int t.2.2])\/H t.1=some (.tup [.int t.2.1,.int t.2.2])
 | [],_=>⟨[],rfl,λ_ z=>by cases z⟩
 | x :: xs,h=>by
  obtain ⟨ts,e,q⟩:=nA xs λy hy=>h y (tS _ hy)
  cases h x ur with
  | @pr a y z _ e1 _ _ hb =>
   rw[uo] at hb
   obtain ⟨b1,b2⟩:=hb
   cases y <;> try cases b1
   cases z <;> try cases b2
   rename_i y' _ z' _
   refine ⟨(a,y',z') :: ts,by rw[e];rfl,λt ht =>?_⟩
   rcases tG.mp ht with rfl | ht
   ·exact e1
   ·exact q t ht
section
variable  {P:tj}{w:ud}{K:sI}{mg:Str->Option sJ}{base:Heap}{f:Addr}{fd:uh}{c_WebError c_BadWeb c_NoStep c_NoText c_TooMany c_NoTie c_NoRing c_NotClear c_NotThree c_BadBoard c_NoRow c_NoBack:Addr}
theorem eG:aP ["many", "ties", "at", "thing"] ["many", "ties"] (au fR):=⟨rfl,rfl,rfl,by decide +kernel,rfl,by decide +kernel,by decide +kernel⟩
theorem fV:(["pair"]:List Str).Nodup:=by decide +kernel
theorem lQ (F:Fun K "made_web" "made_web" fR f fd)(B:Blt mg)(Z:Exs K mg c_WebError c_BadWeb c_NoStep c_NoText c_TooMany c_NoTie c_NoRing c_NotClear c_NotThree c_BadBoard c_NoRow c_NoBack)(iB:mU P w K mg base 1 c_BadWeb ["self", "at"] (dk c_BadWeb))(cIsWhole:Cal P w K mg base 1 "is_whole" ["thing"] (dX K))(cIsPair:Cal P w K mg base 3 "is_pair" ["many", "thing"] iA)(cTieOf:Cal P w K mg base 1 "tie_of" ["one", "other"] pK)(C:Cst mg):aZ P w K mg base (CX2 P w) 4 f fd ["many", "ties"] (iC c_BadWeb c_TooMany):=by
 refine F.okX2 eG (λvs H Q E h =>?_) (λcdv A outer s H vs Q E hr h =>?_)
 ·obtain ⟨_,_,rfl,_⟩:=cJ.mp h
  rfl
 obtain ⟨M,T,rfl,hh⟩:=cJ.mp h
 obtain ⟨t_MOST_PLACES,w_MOST_PLACES⟩:=C.c_MOST_PLACES
 obtain ⟨t_MOST_TIES,w_MOST_TIES⟩:=C.c_MOST_TIES
 obtain ⟨fB,fdB,MB,FB,bB⟩:=iB.ex
 refine ⟨_,(@ak _ _ _ _ _ (@bK _ _ _ _ _ _ _ _ (PW.pt (gh (bZ (bG (aD cIsWhole hr (by decide) rfl (@aa _ _ _ _ _ (pv 0) ag rfl)))) (gh (bZ (l7 l4 l4 ah (pv 0) (aE (v :=.int 40) rfl w_MOST_PLACES ⟨_,rfl⟩))) (gN (bZ (bG (aq dI rfl B.b_isinstance ao (@aa _ _ _ _ _ (pv 1) (@aa _ _ _ _ _ (@bg _ _ _ _ _ (@aa _ _ _ _ _ (bV (v :=.ty "list") rfl B.b_list ip rfl) (@aa _ _ _ _ _ (bV (v :=.ty "tuple") rfl B.b_tuple fT rfl) ag rfl) rfl)) ag rfl) rfl)))))))) (@av _ _ _ (gH (x := "BadWeb") pG MB (aI Z.xi_BadWeb).1.sb (aI Z.xi_BadWeb).2.2 FB (hr.mono (by decide)) rfl Z.x_BadWeb bB pE (@aa _ _ _ _ _ (gj d9 ah) ag rfl))) aW)
  (@ak _ _ _ _ _ (@cP _ _ _ _ _ _ _ _ PassesOwn.leaving rfl (oh rfl B.b_enumerate (@aa _ _ _ _ _ (pv 1) ag rfl)) (gO rfl (bO (bb (i:=2) eG.nd rfl (Or.inl rfl)) (bO (bb (i:=3) eG.nd rfl (Or.inl rfl)) fc)))
   (@av _ _ _ (@bK _ _ _ _ _ _ _ _ (bZ (bG (aD cIsPair hr (by decide) rfl (@aa _ _ _ _ _ (pv 0) (@aa _ _ _ _ _ (pv 3) ag rfl) rfl)))) (@av _ _ _ (gH (x := "BadWeb") pG MB (aI Z.xi_BadWeb).1.sb (aI Z.xi_BadWeb).2.2 FB (hr.mono (by decide)) rfl Z.x_BadWeb bB pE (@aa _ _ _ _ _ (pv 2) ag rfl))) aW)) (λ_=>rfl))
  (@ak _ _ _ _ _ (@bK _ _ _ _ _ _ _ _ (bq jR (aq aT rfl B.b_len cG (@aa _ _ _ _ _ (pv 1) ag rfl)) (aE (v :=.int 200) rfl w_MOST_TIES ⟨_,rfl⟩) (bp _)) (@av _ _ _ (mJ (x := "TooMany") se ⟨Z.xe_TooMany,Z.x_TooMany⟩ hr.hd rfl (@aa _ _ _ _ _ bC ag rfl))) aW)
  (@av _ _ _ (@bu _ _ _ _ (@bg _ _ _ _ _ (@aa _ _ _ _ _ (pv 0) (@aa _ _ _ _ _ (cX fY rfl B.b_tuple fT (@aa _ _ _ _ _ (aq hV rfl B.b_sorted gJ (@aa _ _ _ _ _ (oa ["pair"] [none] rfl (@dG _ _ _ _ (pv 1)) rfl (λ_ _ _ _ _=>(bb (i:=0) fV rfl (Or.inl rfl))) (λ_ _ _ _ _=>ql) (λ_ _ _ _ _=>(aD cTieOf hr (by decide) rfl (@aa _ _ _ _ _ (@b8 _ _ _ _ _ _ _ (fg (K:=K)) (pv 0) ah (λ_ _=>rfl)) (@aa _ _ _ _ _ (@b8 _ _ _ _ _ _ _ (fg (K:=K)) (pv 0) ah (λ_ _=>rfl)) ag rfl) rfl)))) ag rfl)) ag rfl)) ag rfl) rfl))))))),?_⟩
 rcases hh with ⟨hb,be⟩ | ⟨m,r,xs,k,rfl,m0,m1,rfl,hx,xl,U,be,tm,q⟩
 ·have rz:∀(σ:St) (H1:Hp),aB H H1->kh c_BadWeb (dk c_BadWeb) E (o9 (tUn (λx H Q=>∃i:Int,x = .int i/\Q (.int (-i)) H) (tC (.int 1))) rG) { nx:=λ_ _=>False,rt:=λ_ _=>False } σ H1:=λσ H1 s1 =>
   ⟨1,rfl,(by show 1<=sM;decide),λea he=>aY.mpr ⟨ea, -1,rfl,ae,by decide,by decide,λdx hdx nx=>by
    obtain ⟨s2,ed⟩:=kD (o1:=az ea c_BadWeb none) (o2 :=.xd [("at",.int (-1))]) (o3:=az ea c_BadWeb (some dx)) he hdx nx
    exact ⟨rfl,ea,some dx,rfl,ae,be dx _ (s1.trans s2) ed⟩⟩⟩
  cases hb with
  | flt f w =>
   obtain ⟨_,⟨t,b1,b2,ty,k1,k2,e⟩,_⟩:=jL (K:=K) f
   refine ⟨_,rfl,ba.mpr ⟨M,t,b1,b2,rfl,ty,k1,k2,_,rfl,?_⟩⟩
   rw[e,w]
   exact aS (rz _ _ (aB.refl _))
  | sq e =>
   obtain ⟨_,⟨t,b1,b2,ty,k1,k2,eb⟩,_⟩:=iz (K:=K) e
   refine ⟨_,rfl,ba.mpr ⟨_,t,b1,b2,rfl,ty,k1,k2,_,rfl,?_⟩⟩
   rw[eb]
   exact aS (rz _ _ (aB.refl _))
  | @num m _ hm =>
   refine ⟨_,rfl,ba.mpr ⟨_,_,true,false,rfl,.int m,rfl,rfl,_,rfl,aR ⟨_,rfl,_,_,rfl,rfl,_,rfl,?_⟩⟩⟩
   by_cases c:(0:Int)<=m
   ·rw[decide_eq_true c]
    refine aS ⟨_,_,rfl,rfl,_,rfl,?_⟩
    rw[decide_eq_false (show ¬ m<=40 by omega)]
    exact aS (rz _ _ (aB.refl _))
   ·rw[decide_eq_false c]
    exact aR ⟨_,rfl,aS (rz _ _ (aB.refl _))⟩
  | @row m _ h0 h1 f =>
   refine ⟨_,rfl,ba.mpr ⟨_,_,true,false,rfl,.int m,rfl,rfl,_,rfl,aR ⟨_,rfl,_,_,rfl,rfl,_,rfl,sC h0 ⟨_,_,rfl,rfl,_,rfl,?_⟩⟩⟩⟩
   rw[decide_eq_true h1]
   refine aR ⟨_,rfl,(by show 2<=sM;decide),λp hp =>?_⟩
   have s0:=af hp (.tup [.ty "list",.ty "tuple"])
   have f:=f.bT λa u _ e=>s0 a u e
   have ep:SqT K (upd H p (.tup [.ty "list",.ty "tuple"])) p (["list", "tuple"].map V.ty):=SqT.of ae
   generalize upd H p (.tup [.ty "list",.ty "tuple"])=H1 at s0 ep f
   obtain ⟨⟨t,ty,k⟩,_,n⟩:=jL (K:=K) f
   exact ⟨_,p,_,t,false,rfl,ep,ty,n,k,_,rfl,aS (rz _ _ s0)⟩
 refine ⟨_,rfl,ba.mpr ⟨_,_,true,false,rfl,.int m,rfl,rfl,_,rfl,aR ⟨_,rfl,_,_,rfl,rfl,_,rfl,sC m0 ⟨_,_,rfl,rfl,_,rfl,?_⟩⟩⟩⟩
 rw[decide_eq_true m1]
 refine aR ⟨_,rfl,(by show 2<=sM;decide),λp hp =>?_⟩
 have s0:=af hp (.tup [.ty "list",.ty "tuple"])
 have ep:SqT K (upd H p (.tup [.ty "list",.ty "tuple"])) p (["list", "tuple"].map V.ty):=SqT.of ae
 have hx0:=s0 _ _ hx
 have U0:=U.same s0
 generalize upd H p (.tup [.ty "list",.ty "tuple"])=H1 at s0 ep hx0 U0
 obtain ⟨⟨t,ty,kk⟩,_,n⟩:=iz (K:=K) (.inl hx0)
 refine ⟨_,p,_,t,true,rfl,ep,ty,n,kk,_,rfl,aR ?_⟩
 refine ⟨_,rfl,r,rfl,.inl ⟨⟨_,SqL.of hx0⟩,lq (xs:=xs) (λi σ H'=>(∃c2 c3,σ=[some (.int m),some (.ref r),c2,c3])/\aB H1 H'/\i<=k) ⟨⟨none,none,rfl⟩,aB.refl _,uz _⟩ (λi σ H' _ z=>SqL.of (z.2.1 _ _ hx0)) ?_ ?_⟩⟩
 ·rintro i x σ H2 T' hxi hT ⟨⟨c2,c3,rfl⟩,s2,ik⟩
  have s3:=s2.trans (af hT (.tup [.int i,x]))
  refine ⟨T',_,rfl,SqT.of ae,rfl,_,_,rfl,_,_,rfl,rfl,?_⟩
  by_cases c:i<k
  ·refine ⟨_,rfl,_,rfl,cI.mpr ⟨m,x,true,rfl,(U0.yes i x c hxi).same s3,λH3 s4=>⟨_,rfl,aR ⟨⟨_,_,rfl⟩,s3.trans s4,c⟩⟩⟩⟩
  ·obtain rfl:i=k:=by omega
   have lt:i<xs.length:=(sQ.mp hxi).1
   refine ⟨_,rfl,_,rfl,cI.mpr ⟨m,x,false,rfl,(U0.no x hxi).same s3,λH3 s4=>⟨_,rfl,aS ⟨_,rfl,(by show 1<=sM;decide),λea he =>?_⟩⟩⟩⟩
   refine aY.mpr ⟨ea,i,rfl,ae,by omega,by omega,λdx hdx nx =>?_⟩
   obtain ⟨s5,ed⟩:=kD (o1:=az ea c_BadWeb none) (o2 :=.xd [("at",.int i)]) (o3:=az ea c_BadWeb (some dx)) he hdx nx
   exact ⟨rfl,ea,some dx,rfl,ae,be lt dx _ (s0.trans ((s3.trans s4).trans s5)) ed⟩
 rintro σ H2 ⟨⟨c2,c3,rfl⟩,s2,lk⟩
 have ek:k=xs.length:=x3 U.le lk
 have hx2:=s2 _ _ hx0
 refine ⟨_,rfl,r,_,rfl,.inl (SqL.of hx2),_,_,rfl,rfl,_,rfl,?_⟩
 by_cases c:200<xs.length
 ·rw[decide_eq_true (show ((200:Int)<(xs.length:Int)) by omega)]
  exact aS ⟨(by show 1<=sM;decide),tm ek c _ (s0.trans s2)⟩
 rw[decide_eq_false (show ¬ ((200:Int)<(xs.length:Int)) by omega)]
 refine aR ?_
 have q5:=q ek (by omega)
 obtain ⟨ts,exs,ht⟩:=nA (H:=H2) (m:=m) xs λx hx=>by
  obtain ⟨j,ej⟩:=uc.mp hx
  have lj:j<xs.length:=(sQ.mp ej).1
  exact (U0.yes j x (by omega) ej).same s2
 subst exs
 rw[t7] at c xl
 have item:∀{i:Nat} {x:V},(ts.map λt:Addr×Int×Int=>V.ref t.1)[i]? = some x->∃tt,ts[i]? = some tt/\x = .ref tt.1:=λ{i x} e=>by
  rw[vS] at e
  cases z:ts[i]? with
  | none=>rw[z] at e;cases e
  | some tt=>rw[z] at e;exact ⟨tt,rfl,(tV e).symm⟩
 refine ⟨_,rfl,_,rfl,r,rfl,⟨_,SqL.of hx2⟩,jv (xs:=ts.map λt =>.ref t.1) (λi ys H'=>aB H2 H'/\∃us,jM H' ys us/\us.map (·.2)=(ts.take i).map λt=>nrm t.2.1 t.2.2) ⟨aB.refl _,[],⟨rfl,λu hu=>by cases hu⟩,rfl⟩ (by rw[t7];exact small (by omega)) (λi ys H' _ z=>SqL.of (z.1 _ _ hx2)) ?_ ?_⟩
 ·rintro i x ys H3 hx hy ⟨s3,us,tu,eu⟩ R1 R0 r1 r0
  obtain ⟨tt,e1,rfl⟩:=item hx
  have h1:=(ht tt (tD e1)).imp (s3 _ _) (s3 _ _)
  have ix:∀(i:Nat) (v:V) (Q:VK),([.int tt.2.1,.int tt.2.2]:List V)[i]? = some v->Q v H3->rIx K (.ref tt.1) (.int (i:Int)) H3 Q:=λi v Q e h=>by
   rcases h1 with z | z
   ·exact .inl ⟨tt.1,_,(i:Int),v,rfl,rfl,SqL.of z,cY e,h⟩
   ·exact .inr (.inl ⟨tt.1,_,(i:Int),v,rfl,rfl,SqT.of z,cY e,h⟩)
  refine aS ⟨_,rfl,ix 0 (.int tt.2.1) _ rfl ⟨_,rfl,ix 1 (.int tt.2.2) _ rfl ⟨tt.2.1,tt.2.2,rfl,λtn htn=>r1 _ _ ⟨s3.trans (af htn _),us++[(tn,nrm tt.2.1 tt.2.2)],tu.add htn _,?_⟩⟩⟩⟩
  rw[wV,eu,xA,e1,wV]
  rfl
 rintro ys H3 hy ⟨s3,us,tu,eu⟩ l hl
 have eu':us.map (·.2)=ts.map λt=>nrm t.2.1 t.2.2:=by rw[eu,t7,uV (sS _)]
 have s4:=s3.trans (af hl (.lst ys))
 have tu4:=tu.same (af hl (.lst ys))
 have ey:=tu.1
 have nn:∀u∈us,u.2≠[]:=λu hu z=>by
  have mm:u.2∈us.map (·.2):=List.mem_map_of_mem hu
  rw[eu'] at mm
  obtain ⟨x,_,e⟩:=xj.mp mm
  rw[z] at e
  cases e
 refine ⟨l,us,rfl,.inl (SqL.of (by rw[ae,ey])),λu hu=>⟨SqT.of (tu4.2 u hu),nn u hu⟩,λl2 out hl2 pm ps =>?_⟩
 have s5:=s4.trans (af hl2 (.lst (out.map λt =>.ref t.1)))
 refine ⟨l2,_,rfl,.inl ⟨SqL.of ae,λl3 hl3 =>?_⟩⟩
 have s6:=s5.trans (af hl3 (.tup (out.map λt =>.ref t.1)))
 exact ⟨(by show 2<=sM;decide),λz hz=>q5 _ _ (s0.trans (s2.trans (s6.trans (af hz _))))⟩
end
open PySem L2
theorem oW {X:Cx}{K:sI}(i:Nat){x f:Str}{p2 pos:Pos}(hN:X.N[i]? = some x:=by rfl)(hv:Vis X.env.scope x:=by first | exact Or.inl rfl | exact Or.inr (Or.inl rfl) | exact Or.inr (Or.inr rfl))(hd:(x == ("__debug__" : Str))=false:=by decide)
  (hcd:(x == ("__classdict__" : Str))=false:=by decide) (hK:X.K=K:=by rfl):PE X (.Attribute (.Name x p2) f pos) (sk K (pQ i) f):=hK ▸ qO (pv i hN hv hd hcd) rfl
abbrev kE:Sp:=λvs H Q _=>∃(M T:V),vs=[M,T]/\((Bad H M T/\∀l H',aB H H'->H' l=some (.lst [.str "bad",.int (-1)])->Q (.ref l) H')\/∃(m:Int) (r:Addr) (xs:List V) (k:Nat),M = .int m/\0<=m/\m<=40/\T = .ref r/\H r=some (.lst xs)/\xs.length<=300/\fU H m xs k/\(k<xs.length->∀l H',aB H H'->H' l=some (.lst [.str "bad",.int (k:Int)])->Q (.ref l) H')/\(k=xs.length->200<xs.length->∀l H',aB H H'->H' l=some (.lst [.str "many"])->Q (.ref l) H')/\(k=xs.length->xs.length<=200->∀H',aB H H'->Q .non H'))
@[irreducible] def iD:Sp:=kE
theorem aA {vs:List V}{H:Hp}{Q:VK}{E:XK}:iD vs H Q E↔kE vs H Q E:=by
 delta iD
 exact wB
section
variable  {P:tj}{w:ud}{K:sI}{mg:Str->Option sJ}{base:Heap}{f:Addr}{fd:uh}{c_WebError c_BadWeb c_NoStep c_NoText c_TooMany c_NoTie c_NoRing c_NotClear c_NotThree c_BadBoard c_NoRow c_NoBack:Addr}
theorem cK:aP ["many", "row", "told", "e", "others"] ["many", "row"] (au jJ):=⟨rfl,rfl,rfl,by decide +kernel,rfl,by decide +kernel,by decide +kernel⟩
theorem oX (F:Fun K "_law_kind" "_law_kind" jJ f fd)(B:Blt mg)(Z:Exs K mg c_WebError c_BadWeb c_NoStep c_NoText c_TooMany c_NoTie c_NoRing c_NotClear c_NotThree c_BadBoard c_NoRow c_NoBack)(xMade:kg P w K mg base 4 "made_web" ["many", "ties"] (iC c_BadWeb c_TooMany))(C:Cst mg):aZ P w K mg base CX0 5 f fd ["many", "row"] iD:=by
 refine F.ok cK (λvs H Q E h =>?_) (λcdv A outer s H vs Q E hr h =>?_)
 ·obtain ⟨_,_,rfl,_⟩:=aA.mp h
  rfl
 obtain ⟨M,T,rfl,hh⟩:=aA.mp h
 refine ⟨_,(@ak _ _ _ _ _ (@aG _ _ 2 _ _ _ _ cK.nd rfl (Or.inl rfl) cx rfl (by first | exact .inl rfl | exact .inr rfl | assumption))
  (@ak _ _ _ _ _ (oN (i:=3) (n := "e") (x := "WebError") rfl rfl cK.nd rfl rfl rfl Z.x_WebError (oM (mO xMade hr (by decide) rfl (@aa _ _ _ _ _ (pv 0) (@aa _ _ _ _ _ (pv 1) ag rfl) rfl))) (λ_=>(@ak _ _ _ _ _ (@aG _ _ 2 _ _ _ _ cK.nd rfl (Or.inl rfl) (@aF _ _ _ _ (@aa _ _ _ _ _ bC ag rfl)) rfl (by first | exact .inl rfl | exact .inr rfl | assumption))
    (@ak _ _ _ _ _ (@aG _ _ 4 _ _ _ _ cK.nd rfl (Or.inl rfl) (aq (jG (K:=K)) rfl B.b_isinstance ao (@aa _ _ _ _ _ (pv 3) (@aa _ _ _ _ _ (@bg _ _ _ _ _ (@aa _ _ _ _ _ (aE (v :=.ref c_BadBoard) rfl Z.x_BadBoard rfl) (@aa _ _ _ _ _ (aE (v :=.ref c_NoBack) rfl Z.x_NoBack rfl) (@aa _ _ _ _ _ (aE (v :=.ref c_NoRing) rfl Z.x_NoRing rfl) (@aa _ _ _ _ _ (aE (v :=.ref c_NoRow) rfl Z.x_NoRow rfl) (@aa _ _ _ _ _ (aE (v :=.ref c_NoStep) rfl Z.x_NoStep rfl) (@aa _ _ _ _ _ (aE (v :=.ref c_NoText) rfl Z.x_NoText rfl) (@aa _ _ _ _ _ (aE (v :=.ref c_NoTie) rfl Z.x_NoTie rfl) (@aa _ _ _ _ _ (aE (v :=.ref c_NotClear) rfl Z.x_NotClear rfl) (@aa _ _ _ _ _ (aE (v :=.ref c_NotThree) rfl Z.x_NotThree rfl) ag rfl) rfl) rfl) rfl) rfl) rfl) rfl) rfl) rfl)) ag rfl) rfl)) rfl (by first | exact .inl rfl | exact .inr rfl | assumption))
    (@av _ _ _ (@bK _ _ _ _ _ _ _ _ (PW.pt (dZ (bG (aq (cu (K:=K)) rfl B.b_isinstance ao (@aa _ _ _ _ _ (pv 3) (@aa _ _ _ _ _ (bV (v :=.ty "ValueError") rfl B.b_ValueError dj rfl) ag rfl) rfl))) (dF (bZ (bG (pv 4)))))) (@av _ _ _ (@bK _ _ _ _ _ _ _ _ (PW.pt (dZ (bG (aq (cu (K:=K)) rfl B.b_isinstance ao (@aa _ _ _ _ _ (pv 3) (@aa _ _ _ _ _ (aE (v :=.ref c_BadWeb) rfl Z.x_BadWeb rfl) ag rfl) rfl))) (dF (bZ (bG (aq (cu (K:=K)) rfl B.b_isinstance ao (@aa _ _ _ _ _ (pv 3) (@aa _ _ _ _ _ (aE (v :=.ref c_TooMany) rfl Z.x_TooMany rfl) ag rfl) rfl))))))) (@av _ _ _ (@aG _ _ 2 _ _ _ _ cK.nd rfl (Or.inl rfl) (@aF _ _ _ _ (@aa _ _ _ _ _ bC (@aa _ _ _ _ _ (oW (K:=K) 3) ag rfl) rfl)) rfl (by first | exact .inl rfl | exact .inr rfl | assumption))) (@av _ _ _ (@bK _ _ _ _ _ _ _ _ (PW.pt (dZ (bG (aq (cu (K:=K)) rfl B.b_isinstance ao (@aa _ _ _ _ _ (pv 3) (@aa _ _ _ _ _ (aE (v :=.ref c_TooMany) rfl Z.x_TooMany rfl) ag rfl) rfl))) (dF (bZ (bG (aq (cu (K:=K)) rfl B.b_isinstance ao (@aa _ _ _ _ _ (pv 3) (@aa _ _ _ _ _ (aE (v :=.ref c_BadWeb) rfl Z.x_BadWeb rfl) ag rfl) rfl))))))) (@av _ _ _ (@aG _ _ 2 _ _ _ _ cK.nd rfl (Or.inl rfl) (@aF _ _ _ _ (@aa _ _ _ _ _ bC ag rfl)) rfl (by first | exact .inl rfl | exact .inr rfl | assumption))) aW)))) aW))))))
  (@av _ _ _ (@bu _ _ _ _ (pv 2))))),?_⟩
 rcases hh with ⟨hb,be⟩ | ⟨m,r,xs,k,rfl,m0,m1,rfl,hx,xl,U,be,tm,q⟩
 ·refine ⟨_,rfl,_,rfl,cJ.mpr ⟨M,T,rfl,.inl ⟨hb,λdx H1 s1 ed=>⟨Z.xm_BadWeb,λea he =>?_⟩⟩⟩⟩
  obtain ⟨ZI,_,_⟩:=aI Z.xi_BadWeb
  obtain ⟨ko,kv,_⟩:=fq Z.kt (i:=0) (by decide:0<11)
  have kB:=ko 0 (by show 0<11;decide)
  have kT:=ko 3 (by show 3<11;decide)
  have g1:=af he (bL ea (.ref c_BadWeb) (some dx))
  have ee:upd H1 ea (bL ea (.ref c_BadWeb) (some dx)) ea=some (bL ea (.ref c_BadWeb) (some dx)):=ae
  have s2:=s1.trans g1
  generalize upd H1 ea (bL ea (.ref c_BadWeb) (some dx))=H2 at g1 ee s2
  refine ⟨(by show 1<=sM;decide),λl1 hl1 =>?_⟩
  have g3:=af hl1 (.lst [.str "another"])
  have ee:=g3 _ _ ee
  have s3:=s2.trans g3
  generalize upd H2 l1 (.lst [.str "another"])=H3 at g3 ee s3
  refine ⟨_,rfl,(by show 9<=sM;decide),λtp htp =>?_⟩
  have g4:=af htp (.tup [.ref c_BadBoard,.ref c_NoBack,.ref c_NoRing,.ref c_NoRow,.ref c_NoStep,.ref c_NoText,.ref c_NoTie,.ref c_NotClear,.ref c_NotThree])
  have et:upd H3 tp (.tup [.ref c_BadBoard,.ref c_NoBack,.ref c_NoRing,.ref c_NoRow,.ref c_NoStep,.ref c_NoText,.ref c_NoTie,.ref c_NotClear,.ref c_NotThree]) tp=some (.tup [.ref c_BadBoard,.ref c_NoBack,.ref c_NoRing,.ref c_NoRow,.ref c_NoStep,.ref c_NoText,.ref c_NoTie,.ref c_NotClear,.ref c_NotThree]):=ae
  have ee:=g4 _ _ ee
  have s4:=s3.trans g4
  generalize upd H3 tp (.tup [.ref c_BadBoard,.ref c_NoBack,.ref c_NoRing,.ref c_NoRow,.ref c_NoStep,.ref c_NoText,.ref c_NoTie,.ref c_NotClear,.ref c_NotThree])=H4 at g4 ee et s4
  refine ⟨ea,_,tp,_,_,false,rfl,ee,ZI,et,λc hc=>vn.mp (show List.all [.ref c_BadBoard,.ref c_NoBack,.ref c_NoRing,.ref c_NoRow,.ref c_NoStep,.ref c_NoText,.ref c_NoTie,.ref c_NotClear,.ref c_NotThree] eV=true from rfl) c hc,Z.xo_BadWeb,?_⟩
  refine ⟨_,rfl,ea,_,_,_,true,rfl,ee,ZI,rfl,kv,_,rfl,aS ⟨_,rfl,_,rfl,aS ?_⟩⟩
  refine ⟨_,rfl,ea,_,_,_,true,rfl,ee,ZI,rfl,kB,_,rfl,aS ⟨_,rfl,ea,_,_,_,false,rfl,ee,ZI,rfl,kT,_,rfl,aS ?_⟩⟩
  obtain ⟨N,S⟩:=bJ Z.xn_BadWeb
  have ed:=g4 _ _ (g3 _ _ (g1 _ _ ed))
  exact ⟨_,rfl,ea,_,dx,_,_,rfl,ee,ed,N,ZI,S.na,rfl,(by show 2<=sM;decide),λl hl=>⟨_,rfl,be l _ (s4.trans (af hl _)) ae⟩⟩
 ·refine ⟨_,rfl,_,rfl,cJ.mpr ⟨_,_,rfl,.inr ⟨m,r,xs,k,rfl,m0,m1,rfl,hx,xl,U,λlt dx H1 s1 ed=>⟨Z.xm_BadWeb,λea he =>?_⟩,λek lt H1 s1=>⟨Z.xm_TooMany,λea he =>?_⟩,λek lt v H1 s1=>⟨_,rfl,q ek lt H1 s1⟩⟩⟩⟩
  ·obtain ⟨ZI,_,_⟩:=aI Z.xi_BadWeb
   obtain ⟨ko,kv,_⟩:=fq Z.kt (i:=0) (by decide:0<11)
   have kB:=ko 0 (by show 0<11;decide)
   have kT:=ko 3 (by show 3<11;decide)
   have g1:=af he (bL ea (.ref c_BadWeb) (some dx))
   have ee:upd H1 ea (bL ea (.ref c_BadWeb) (some dx)) ea=some (bL ea (.ref c_BadWeb) (some dx)):=ae
   have s2:=s1.trans g1
   generalize upd H1 ea (bL ea (.ref c_BadWeb) (some dx))=H2 at g1 ee s2
   refine ⟨(by show 1<=sM;decide),λl1 hl1 =>?_⟩
   have g3:=af hl1 (.lst [.str "another"])
   have ee:=g3 _ _ ee
   have s3:=s2.trans g3
   generalize upd H2 l1 (.lst [.str "another"])=H3 at g3 ee s3
   refine ⟨_,rfl,(by show 9<=sM;decide),λtp htp =>?_⟩
   have g4:=af htp (.tup [.ref c_BadBoard,.ref c_NoBack,.ref c_NoRing,.ref c_NoRow,.ref c_NoStep,.ref c_NoText,.ref c_NoTie,.ref c_NotClear,.ref c_NotThree])
   have et:upd H3 tp (.tup [.ref c_BadBoard,.ref c_NoBack,.ref c_NoRing,.ref c_NoRow,.ref c_NoStep,.ref c_NoText,.ref c_NoTie,.ref c_NotClear,.ref c_NotThree]) tp=some (.tup [.ref c_BadBoard,.ref c_NoBack,.ref c_NoRing,.ref c_NoRow,.ref c_NoStep,.ref c_NoText,.ref c_NoTie,.ref c_NotClear,.ref c_NotThree]):=ae
   have ee:=g4 _ _ ee
   have s4:=s3.trans g4
   generalize upd H3 tp (.tup [.ref c_BadBoard,.ref c_NoBack,.ref c_NoRing,.ref c_NoRow,.ref c_NoStep,.ref c_NoText,.ref c_NoTie,.ref c_NotClear,.ref c_NotThree])=H4 at g4 ee et s4
   refine ⟨ea,_,tp,_,_,false,rfl,ee,ZI,et,λc hc=>vn.mp (show List.all [.ref c_BadBoard,.ref c_NoBack,.ref c_NoRing,.ref c_NoRow,.ref c_NoStep,.ref c_NoText,.ref c_NoTie,.ref c_NotClear,.ref c_NotThree] eV=true from rfl) c hc,Z.xo_BadWeb,?_⟩
   refine ⟨_,rfl,ea,_,_,_,true,rfl,ee,ZI,rfl,kv,_,rfl,aS ⟨_,rfl,_,rfl,aS ?_⟩⟩
   refine ⟨_,rfl,ea,_,_,_,true,rfl,ee,ZI,rfl,kB,_,rfl,aS ⟨_,rfl,ea,_,_,_,false,rfl,ee,ZI,rfl,kT,_,rfl,aS ?_⟩⟩
   obtain ⟨N,S⟩:=bJ Z.xn_BadWeb
   have ed:=g4 _ _ (g3 _ _ (g1 _ _ ed))
   exact ⟨_,rfl,ea,_,dx,_,_,rfl,ee,ed,N,ZI,S.na,rfl,(by show 2<=sM;decide),λl hl=>⟨_,rfl,be lt l _ (s4.trans (af hl _)) ae⟩⟩
  ·obtain ⟨ZI,_,_⟩:=aI Z.xi_TooMany
   obtain ⟨ko,kv,_⟩:=fq Z.kt (i:=3) (by decide:3<11)
   have kB:=ko 0 (by show 0<11;decide)
   have kT:=ko 3 (by show 3<11;decide)
   have g1:=af he (bL ea (.ref c_TooMany) none)
   have ee:upd H1 ea (bL ea (.ref c_TooMany) none) ea=some (bL ea (.ref c_TooMany) none):=ae
   have s2:=s1.trans g1
   generalize upd H1 ea (bL ea (.ref c_TooMany) none)=H2 at g1 ee s2
   refine ⟨(by show 1<=sM;decide),λl1 hl1 =>?_⟩
   have g3:=af hl1 (.lst [.str "another"])
   have ee:=g3 _ _ ee
   have s3:=s2.trans g3
   generalize upd H2 l1 (.lst [.str "another"])=H3 at g3 ee s3
   refine ⟨_,rfl,(by show 9<=sM;decide),λtp htp =>?_⟩
   have g4:=af htp (.tup [.ref c_BadBoard,.ref c_NoBack,.ref c_NoRing,.ref c_NoRow,.ref c_NoStep,.ref c_NoText,.ref c_NoTie,.ref c_NotClear,.ref c_NotThree])
   have et:upd H3 tp (.tup [.ref c_BadBoard,.ref c_NoBack,.ref c_NoRing,.ref c_NoRow,.ref c_NoStep,.ref c_NoText,.ref c_NoTie,.ref c_NotClear,.ref c_NotThree]) tp=some (.tup [.ref c_BadBoard,.ref c_NoBack,.ref c_NoRing,.ref c_NoRow,.ref c_NoStep,.ref c_NoText,.ref c_NoTie,.ref c_NotClear,.ref c_NotThree]):=ae
   have ee:=g4 _ _ ee
   have s4:=s3.trans g4
   generalize upd H3 tp (.tup [.ref c_BadBoard,.ref c_NoBack,.ref c_NoRing,.ref c_NoRow,.ref c_NoStep,.ref c_NoText,.ref c_NoTie,.ref c_NotClear,.ref c_NotThree])=H4 at g4 ee et s4
   refine ⟨ea,_,tp,_,_,false,rfl,ee,ZI,et,λc hc=>vn.mp (show List.all [.ref c_BadBoard,.ref c_NoBack,.ref c_NoRing,.ref c_NoRow,.ref c_NoStep,.ref c_NoText,.ref c_NoTie,.ref c_NotClear,.ref c_NotThree] eV=true from rfl) c hc,Z.xo_TooMany,?_⟩
   refine ⟨_,rfl,ea,_,_,_,true,rfl,ee,ZI,rfl,kv,_,rfl,aS ⟨_,rfl,_,rfl,aS ?_⟩⟩
   exact ⟨_,rfl,ea,_,_,_,false,rfl,ee,ZI,rfl,kB,_,rfl,aR ⟨_,rfl,ea,_,_,_,true,rfl,ee,ZI,rfl,kT,_,rfl,aS ⟨_,rfl,ea,_,_,_,false,rfl,ee,ZI,rfl,kB,_,rfl,aS ⟨(by show 1<=sM;decide),λl hl=>⟨_,rfl,tm ek lt l _ (s4.trans (af hl _)) ae⟩⟩⟩⟩⟩
end
open PySem L2
theorem nB {P:tj}{w:ud}{X:Cx}(hP:X.prog=P:=by rfl)(hw:X.w=w:=by rfl):Passes (CX2 P w) X E0:=λ_ _ _ _ _ _ _ h=>by
 obtain ⟨_,_,_,_,_,_,_,_,_,_,_,q⟩:=h
 exact q.elim
theorem iE {H:Hp}{ea dx:Addr}{o1 o2 o3:HO}(h:H ea=none)(hd:upd H ea o1 dx=none)(n:dx≠ea):aB H (upd (upd (upd H ea o1) dx o2) ea o3)/\upd (upd (upd H ea o1) dx o2) ea o3 ea=some o3/\upd (upd (upd H ea o1) dx o2) ea o3 dx=some o2:=by
 refine ⟨λb u e =>?_,ae,by rw[ai n,ae]⟩
 have n1:b≠ea:=aj e h
 have n2:b≠dx:=λz=>by
  rw[ai n] at hd
  rw[z,hd] at e;cases e
 rw[ai n1,ai n2,ai n1];exact e
theorem qW:∀i:Nat,i<11->([i == 0,i == 1,i == 2,i == 3,i == 4,i == 5,i == 6,i == 7,i == 8,i == 9,i == 10]:List Bool).count true=1:=by decide
def Mad (K:sI)(H:Hp)(x:V)(c:Addr):Prop:=∃a d,x = .ref a/\H a=some (az a c d)/\ExI K c
theorem Mad.same {K:sI}{H H':Hp}{x:V}{c:Addr}(s:aB H H')(h:Mad K H x c):Mad K H' x c:=by
 obtain ⟨a,d,e,q,z⟩:=h
 exact ⟨a,d,e,s _ _ q,z⟩
abbrev kF:Sp:=λvs H Q _=>∃(n:Int) (z:Str),vs=[.int n,.str z] /\ -1<=n/\n<=400/\∀H',aB H H'->Q (.bl true) H'
@[irreducible] def iF:Sp:=kF
theorem dC {vs:List V}{H:Hp}{Q:VK}{E:XK}:iF vs H Q E↔kF vs H Q E:=by
 delta iF
 exact wB
section
variable  {P:tj}{w:ud}{K:sI}{mg:Str->Option sJ}{base:Heap}{f:Addr}{fd:uh}{c_WebError c_BadWeb c_NoStep c_NoText c_TooMany c_NoTie c_NoRing c_NotClear c_NotThree c_BadBoard c_NoRow c_NoBack:Addr}
theorem bI:aP ["number", "words", "made", "error", "kinds"] ["number", "words"] (au fS):=⟨rfl,rfl,rfl,by decide +kernel,rfl,by decide +kernel,by decide +kernel⟩
theorem lR (F:Fun K "_law_errors" "_law_errors" fS f fd)(B:Blt mg)(Z:Exs K mg c_WebError c_BadWeb c_NoStep c_NoText c_TooMany c_NoTie c_NoRing c_NotClear c_NotThree c_BadBoard c_NoRow c_NoBack)(iBadWeb:mU P w K mg base 1 c_BadWeb ["self", "at"] (dk c_BadWeb))(iNoStep:mU P w K mg base 1 c_NoStep ["self", "at"] (dk c_NoStep))(iNoText:mU P w K mg base 1 c_NoText ["self", "at"] (dk c_NoText))(C:Cst mg):aZ P w K mg base CX0 3 f fd ["number", "words"] iF:=by
 refine F.ok bI (λvs H Q E h =>?_) (λcdv A outer s H vs Q E hr h =>?_)
 ·obtain ⟨_,_,rfl,_⟩:=dC.mp h
  rfl
 obtain ⟨n,z,rfl,n0,n1,q⟩:=dC.mp h
 obtain ⟨fBadWeb,fdBadWeb,MBadWeb,FBadWeb,bBadWeb⟩:=iBadWeb.ex
 obtain ⟨fNoStep,fdNoStep,MNoStep,FNoStep,bNoStep⟩:=iNoStep.ex
 obtain ⟨fNoText,fdNoText,MNoText,FNoText,bNoText⟩:=iNoText.ex
 refine ⟨_,(@ak _ _ _ _ _ (@aG _ _ 2 _ _ _ _ bI.nd rfl (Or.inl rfl) (@aF _ _ _ _ (@aa _ _ _ _ _ (fN (x := "BadWeb") MBadWeb FBadWeb (hr.mono (by decide)) rfl Z.x_BadWeb bBadWeb nB (@aa _ _ _ _ _ (pv 0) ag rfl)) (@aa _ _ _ _ _ (fN (x := "NoStep") MNoStep FNoStep (hr.mono (by decide)) rfl Z.x_NoStep bNoStep nB (@aa _ _ _ _ _ (pv 0) ag rfl)) (@aa _ _ _ _ _ (fN (x := "NoText") MNoText FNoText (hr.mono (by decide)) rfl Z.x_NoText bNoText nB (@aa _ _ _ _ _ (pv 0) ag rfl)) (@aa _ _ _ _ _ (ck (x := "TooMany") ⟨Z.xe_TooMany,Z.x_TooMany⟩ (aI Z.xi_TooMany).2.1 rfl (@aa _ _ _ _ _ (pv 1) ag rfl)) (@aa _ _ _ _ _ (ck (x := "NoTie") ⟨Z.xe_NoTie,Z.x_NoTie⟩ (aI Z.xi_NoTie).2.1 rfl (@aa _ _ _ _ _ (pv 1) ag rfl)) (@aa _ _ _ _ _ (ck (x := "NoRing") ⟨Z.xe_NoRing,Z.x_NoRing⟩ (aI Z.xi_NoRing).2.1 rfl (@aa _ _ _ _ _ (pv 1) ag rfl)) ag rfl) rfl) rfl) rfl) rfl) rfl)) rfl (by first | exact .inl rfl | exact .inr rfl | assumption))
  (@ak _ _ _ _ _ (@aG _ _ 2 _ _ _ _ bI.nd rfl (Or.inl rfl) (@aM _ _ _ _ _ _ _ _ dH (pv 2) (@aF _ _ _ _ (@aa _ _ _ _ _ (ck (x := "NotClear") ⟨Z.xe_NotClear,Z.x_NotClear⟩ (aI Z.xi_NotClear).2.1 rfl (@aa _ _ _ _ _ (pv 1) ag rfl)) (@aa _ _ _ _ _ (ck (x := "NotThree") ⟨Z.xe_NotThree,Z.x_NotThree⟩ (aI Z.xi_NotThree).2.1 rfl (@aa _ _ _ _ _ (pv 1) ag rfl)) (@aa _ _ _ _ _ (ck (x := "BadBoard") ⟨Z.xe_BadBoard,Z.x_BadBoard⟩ (aI Z.xi_BadBoard).2.1 rfl (@aa _ _ _ _ _ (pv 1) ag rfl)) (@aa _ _ _ _ _ (ck (x := "NoRow") ⟨Z.xe_NoRow,Z.x_NoRow⟩ (aI Z.xi_NoRow).2.1 rfl (@aa _ _ _ _ _ (pv 1) ag rfl)) (@aa _ _ _ _ _ (ck (x := "NoBack") ⟨Z.xe_NoBack,Z.x_NoBack⟩ (aI Z.xi_NoBack).2.1 rfl (@aa _ _ _ _ _ (pv 1) ag rfl)) ag rfl) rfl) rfl) rfl) rfl))) rfl (by first | exact .inl rfl | exact .inr rfl | assumption))
  (@ak _ _ _ _ _ (@cP _ _ _ _ _ _ _ _ vw rfl (@dG _ _ _ _ (pv 2)) (bb (i:=3) bI.nd rfl (Or.inl rfl))
   (@ak _ _ _ _ _ (@aG _ _ 4 _ _ _ _ bI.nd rfl (Or.inl rfl) (@aF _ _ _ _ (@aa _ _ _ _ _ (aq (aU (K:=K)) rfl B.b_isinstance ao (@aa _ _ _ _ _ (pv 3) (@aa _ _ _ _ _ (aE (v :=.ref c_BadWeb) rfl Z.x_BadWeb rfl) ag rfl) rfl)) (@aa _ _ _ _ _ (aq (aU (K:=K)) rfl B.b_isinstance ao (@aa _ _ _ _ _ (pv 3) (@aa _ _ _ _ _ (aE (v :=.ref c_NoStep) rfl Z.x_NoStep rfl) ag rfl) rfl)) (@aa _ _ _ _ _ (aq (aU (K:=K)) rfl B.b_isinstance ao (@aa _ _ _ _ _ (pv 3) (@aa _ _ _ _ _ (aE (v :=.ref c_NoText) rfl Z.x_NoText rfl) ag rfl) rfl)) ag rfl) rfl) rfl)) rfl (by first | exact .inl rfl | exact .inr rfl | assumption))
   (@ak _ _ _ _ _ (@aG _ _ 4 _ _ _ _ bI.nd rfl (Or.inl rfl) (@aM _ _ _ _ _ _ _ _ dH (pv 4) (@aF _ _ _ _ (@aa _ _ _ _ _ (aq (aU (K:=K)) rfl B.b_isinstance ao (@aa _ _ _ _ _ (pv 3) (@aa _ _ _ _ _ (aE (v :=.ref c_TooMany) rfl Z.x_TooMany rfl) ag rfl) rfl)) (@aa _ _ _ _ _ (aq (aU (K:=K)) rfl B.b_isinstance ao (@aa _ _ _ _ _ (pv 3) (@aa _ _ _ _ _ (aE (v :=.ref c_NoTie) rfl Z.x_NoTie rfl) ag rfl) rfl)) (@aa _ _ _ _ _ (aq (aU (K:=K)) rfl B.b_isinstance ao (@aa _ _ _ _ _ (pv 3) (@aa _ _ _ _ _ (aE (v :=.ref c_NoRing) rfl Z.x_NoRing rfl) ag rfl) rfl)) ag rfl) rfl) rfl))) rfl (by first | exact .inl rfl | exact .inr rfl | assumption))
   (@ak _ _ _ _ _ (@aG _ _ 4 _ _ _ _ bI.nd rfl (Or.inl rfl) (@aM _ _ _ _ _ _ _ _ dH (pv 4) (@aF _ _ _ _ (@aa _ _ _ _ _ (aq (aU (K:=K)) rfl B.b_isinstance ao (@aa _ _ _ _ _ (pv 3) (@aa _ _ _ _ _ (aE (v :=.ref c_NotClear) rfl Z.x_NotClear rfl) ag rfl) rfl)) (@aa _ _ _ _ _ (aq (aU (K:=K)) rfl B.b_isinstance ao (@aa _ _ _ _ _ (pv 3) (@aa _ _ _ _ _ (aE (v :=.ref c_NotThree) rfl Z.x_NotThree rfl) ag rfl) rfl)) (@aa _ _ _ _ _ (aq (aU (K:=K)) rfl B.b_isinstance ao (@aa _ _ _ _ _ (pv 3) (@aa _ _ _ _ _ (aE (v :=.ref c_BadBoard) rfl Z.x_BadBoard rfl) ag rfl) rfl)) ag rfl) rfl) rfl))) rfl (by first | exact .inl rfl | exact .inr rfl | assumption))
   (@ak _ _ _ _ _ (@aG _ _ 4 _ _ _ _ bI.nd rfl (Or.inl rfl) (@aM _ _ _ _ _ _ _ _ dH (pv 4) (@aF _ _ _ _ (@aa _ _ _ _ _ (aq (aU (K:=K)) rfl B.b_isinstance ao (@aa _ _ _ _ _ (pv 3) (@aa _ _ _ _ _ (aE (v :=.ref c_NoRow) rfl Z.x_NoRow rfl) ag rfl) rfl)) (@aa _ _ _ _ _ (aq (aU (K:=K)) rfl B.b_isinstance ao (@aa _ _ _ _ _ (pv 3) (@aa _ _ _ _ _ (aE (v :=.ref c_NoBack) rfl Z.x_NoBack rfl) ag rfl) rfl)) ag rfl) rfl))) rfl (by first | exact .inl rfl | exact .inr rfl | assumption))
   (@av _ _ _ (@bK _ _ _ _ _ _ _ _ (PW.pt (gh (bq lZ (jW vB xI PySem.F.type_list_count lH (pv 4) (@aa _ _ _ _ _ eM ag rfl)) ah (bp _)) (gh (bZ (bG (aq (aU (K:=K)) rfl B.b_isinstance ao (@aa _ _ _ _ _ (pv 3) (@aa _ _ _ _ _ (bV (v :=.ty "ValueError") rfl B.b_ValueError dj rfl) ag rfl) rfl)))) (gN (bZ (bG (aq (aU (K:=K)) rfl B.b_isinstance ao (@aa _ _ _ _ _ (pv 3) (@aa _ _ _ _ _ (aE (v :=.ref c_WebError) rfl Z.x_WebError rfl) ag rfl) rfl)))))))) cW aW)))))) (λ_=>rfl))
  (@av _ _ _ (@bu _ _ _ _ (fe (oG hr) (@aF _ _ _ _ (@aa _ _ _ _ _ (ia (b8 bE (pv 2) ah (λ_ _=>rfl)) (by rfl)) (@aa _ _ _ _ _ (ia (b8 bE (pv 2) ah (λ_ _=>rfl)) (by rfl)) (@aa _ _ _ _ _ (ia (b8 bE (pv 2) ah (λ_ _=>rfl)) (by rfl)) ag rfl) rfl) rfl)) (@aF _ _ _ _ (@aa _ _ _ _ _ (pv 0) (@aa _ _ _ _ _ (pv 0) (@aa _ _ _ _ _ (pv 0) ag rfl) rfl) rfl)) (bp _))))))),?_⟩
 refine ⟨_,rfl,(by show 1<=sM;decide),λa0 h0=>aY.mpr ⟨a0,n,rfl,ae,n0,n1,λx0 y0 w0=>⟨rfl,?_⟩⟩⟩
 obtain ⟨s0,e0,t0⟩:=iE (o1:=az a0 c_BadWeb none) (o2 :=.xd [("at",.int n)]) (o3:=az a0 c_BadWeb (some x0)) h0 y0 w0
 generalize upd (upd (upd H a0 (az a0 c_BadWeb none)) x0 (.xd [("at",.int n)])) a0 (az a0 c_BadWeb (some x0))=H0 at s0 e0 t0
 refine ⟨_,rfl,(by show 1<=sM;decide),λa1 h1=>aY.mpr ⟨a1,n,rfl,ae,n0,n1,λx1 y1 w1=>⟨rfl,?_⟩⟩⟩
 obtain ⟨s1,e1,t1⟩:=iE (o1:=az a1 c_NoStep none) (o2 :=.xd [("at",.int n)]) (o3:=az a1 c_NoStep (some x1)) h1 y1 w1
 generalize upd (upd (upd H0 a1 (az a1 c_NoStep none)) x1 (.xd [("at",.int n)])) a1 (az a1 c_NoStep (some x1))=H1 at s1 e1 t1
 refine ⟨_,rfl,(by show 1<=sM;decide),λa2 h2=>aY.mpr ⟨a2,n,rfl,ae,n0,n1,λx2 y2 w2=>⟨rfl,?_⟩⟩⟩
 obtain ⟨s2,e2,t2⟩:=iE (o1:=az a2 c_NoText none) (o2 :=.xd [("at",.int n)]) (o3:=az a2 c_NoText (some x2)) h2 y2 w2
 generalize upd (upd (upd H1 a2 (az a2 c_NoText none)) x2 (.xd [("at",.int n)])) a2 (az a2 c_NoText (some x2))=H2 at s2 e2 t2
 refine ⟨_,rfl,(by show 1<=sM;decide),λa3 h3 =>?_⟩
 have s3:=af h3 (az a3 c_TooMany none)
 have e3:upd H2 a3 (az a3 c_TooMany none) a3=some (az a3 c_TooMany none):=ae
 generalize upd H2 a3 (az a3 c_TooMany none)=H3 at s3 e3
 refine ⟨_,rfl,(by show 1<=sM;decide),λa4 h4 =>?_⟩
 have s4:=af h4 (az a4 c_NoTie none)
 have e4:upd H3 a4 (az a4 c_NoTie none) a4=some (az a4 c_NoTie none):=ae
 generalize upd H3 a4 (az a4 c_NoTie none)=H4 at s4 e4
 refine ⟨_,rfl,(by show 1<=sM;decide),λa5 h5 =>?_⟩
 have s5:=af h5 (az a5 c_NoRing none)
 have e5:upd H4 a5 (az a5 c_NoRing none) a5=some (az a5 c_NoRing none):=ae
 generalize upd H4 a5 (az a5 c_NoRing none)=H5 at s5 e5
 refine ⟨(by show 6<=sM;decide),λl0 hl0 =>?_⟩
 have g0:=af hl0 (.lst [.ref a0,.ref a1,.ref a2,.ref a3,.ref a4,.ref a5])
 have el0:upd H5 l0 (.lst [.ref a0,.ref a1,.ref a2,.ref a3,.ref a4,.ref a5]) l0=some (.lst [.ref a0,.ref a1,.ref a2,.ref a3,.ref a4,.ref a5]):=ae
 generalize upd H5 l0 (.lst [.ref a0,.ref a1,.ref a2,.ref a3,.ref a4,.ref a5])=G0 at g0 el0
 refine ⟨_,rfl,?_⟩
 refine ⟨_,rfl,(by show 1<=sM;decide),λa6 h6 =>?_⟩
 have s6:=af h6 (az a6 c_NotClear none)
 have e6:upd G0 a6 (az a6 c_NotClear none) a6=some (az a6 c_NotClear none):=ae
 generalize upd G0 a6 (az a6 c_NotClear none)=H6 at s6 e6
 refine ⟨_,rfl,(by show 1<=sM;decide),λa7 h7 =>?_⟩
 have s7:=af h7 (az a7 c_NotThree none)
 have e7:upd H6 a7 (az a7 c_NotThree none) a7=some (az a7 c_NotThree none):=ae
 generalize upd H6 a7 (az a7 c_NotThree none)=H7 at s7 e7
 refine ⟨_,rfl,(by show 1<=sM;decide),λa8 h8 =>?_⟩
 have s8:=af h8 (az a8 c_BadBoard none)
 have e8:upd H7 a8 (az a8 c_BadBoard none) a8=some (az a8 c_BadBoard none):=ae
 generalize upd H7 a8 (az a8 c_BadBoard none)=H8 at s8 e8
 refine ⟨_,rfl,(by show 1<=sM;decide),λa9 h9 =>?_⟩
 have s9:=af h9 (az a9 c_NoRow none)
 have e9:upd H8 a9 (az a9 c_NoRow none) a9=some (az a9 c_NoRow none):=ae
 generalize upd H8 a9 (az a9 c_NoRow none)=H9 at s9 e9
 refine ⟨_,rfl,(by show 1<=sM;decide),λa10 h10 =>?_⟩
 have s10:=af h10 (az a10 c_NoBack none)
 have e10:upd H9 a10 (az a10 c_NoBack none) a10=some (az a10 c_NoBack none):=ae
 generalize upd H9 a10 (az a10 c_NoBack none)=H10 at s10 e10
 have S10:=aB.refl H10
 have S9:=s10
 have S8:=(s9.trans S9)
 have S7:=(s8.trans S8)
 have S6:=(s7.trans S7)
 have S5:=((g0.trans s6).trans S6)
 have S4:=(s5.trans S5)
 have S3:=(s4.trans S4)
 have S2:=(s3.trans S3)
 have S1:=(s2.trans S2)
 have S0:=(s1.trans S1)
 have sH:aB H H10:=s0.trans S0
 refine ⟨(by show 5<=sM;decide),λl1 hl1 =>?_⟩
 have el0:=((s6.trans S6) _ _ el0)
 have el0:=(af hl1 (.lst [.ref a6,.ref a7,.ref a8,.ref a9,.ref a10])) _ _ el0
 have sH:=sH.trans (af hl1 (.lst [.ref a6,.ref a7,.ref a8,.ref a9,.ref a10]))
 have SS:=af hl1 (.lst [.ref a6,.ref a7,.ref a8,.ref a9,.ref a10])
 have el1:upd H10 l1 (.lst [.ref a6,.ref a7,.ref a8,.ref a9,.ref a10]) l1=some (.lst [.ref a6,.ref a7,.ref a8,.ref a9,.ref a10]):=ae
 generalize upd H10 l1 (.lst [.ref a6,.ref a7,.ref a8,.ref a9,.ref a10])=G1 at el0 el1 sH SS
 refine ⟨l0,l1,_,_,rfl,rfl,SqL.of el0,SqL.of el1,(by show 11<=sM;decide),λl2 hl2 =>?_⟩
 have SS:=SS.trans (af hl2 (.lst ([.ref a0,.ref a1,.ref a2,.ref a3,.ref a4,.ref a5]++[.ref a6,.ref a7,.ref a8,.ref a9,.ref a10])))
 have sH:=sH.trans (af hl2 (.lst ([.ref a0,.ref a1,.ref a2,.ref a3,.ref a4,.ref a5]++[.ref a6,.ref a7,.ref a8,.ref a9,.ref a10])))
 have el2:upd G1 l2 (.lst ([.ref a0,.ref a1,.ref a2,.ref a3,.ref a4,.ref a5]++[.ref a6,.ref a7,.ref a8,.ref a9,.ref a10])) l2=some (.lst [.ref a0,.ref a1,.ref a2,.ref a3,.ref a4,.ref a5,.ref a6,.ref a7,.ref a8,.ref a9,.ref a10]):=ae
 generalize upd G1 l2 (.lst ([.ref a0,.ref a1,.ref a2,.ref a3,.ref a4,.ref a5]++[.ref a6,.ref a7,.ref a8,.ref a9,.ref a10]))=G2 at SS sH el2
 have e0:=SS _ _ (S0 _ _ e0)
 have e1:=SS _ _ (S1 _ _ e1)
 have e2:=SS _ _ (S2 _ _ e2)
 have e3:=SS _ _ (S3 _ _ e3)
 have e4:=SS _ _ (S4 _ _ e4)
 have e5:=SS _ _ (S5 _ _ e5)
 have e6:=SS _ _ (S6 _ _ e6)
 have e7:=SS _ _ (S7 _ _ e7)
 have e8:=SS _ _ (S8 _ _ e8)
 have e9:=SS _ _ (S9 _ _ e9)
 have e10:=SS _ _ (S10 _ _ e10)
 have t0:=SS _ _ (S0 _ _ t0)
 have t1:=SS _ _ (S1 _ _ t1)
 have t2:=SS _ _ (S2 _ _ t2)
 have mad:Paired (Mad K G2) [.ref a0,.ref a1,.ref a2,.ref a3,.ref a4,.ref a5,.ref a6,.ref a7,.ref a8,.ref a9,.ref a10] [c_BadWeb,c_NoStep,c_NoText,c_TooMany,c_NoTie,c_NoRing,c_NotClear,c_NotThree,c_BadBoard,c_NoRow,c_NoBack] :=.cons ⟨a0,_,rfl,e0,(aI Z.xi_BadWeb).1⟩ (.cons ⟨a1,_,rfl,e1,(aI Z.xi_NoStep).1⟩ (.cons ⟨a2,_,rfl,e2,(aI Z.xi_NoText).1⟩ (.cons ⟨a3,_,rfl,e3,(aI Z.xi_TooMany).1⟩ (.cons ⟨a4,_,rfl,e4,(aI Z.xi_NoTie).1⟩ (.cons ⟨a5,_,rfl,e5,(aI Z.xi_NoRing).1⟩ (.cons ⟨a6,_,rfl,e6,(aI Z.xi_NotClear).1⟩ (.cons ⟨a7,_,rfl,e7,(aI Z.xi_NotThree).1⟩ (.cons ⟨a8,_,rfl,e8,(aI Z.xi_BadBoard).1⟩ (.cons ⟨a9,_,rfl,e9,(aI Z.xi_NoRow).1⟩ (.cons ⟨a10,_,rfl,e10,(aI Z.xi_NoBack).1⟩ (.nil)))))))))))
 refine ⟨_,rfl,l2,rfl,⟨_,SqL.of el2⟩,bz (xs:=[.ref a0,.ref a1,.ref a2,.ref a3,.ref a4,.ref a5,.ref a6,.ref a7,.ref a8,.ref a9,.ref a10]) (λi σ H'=>(∃c3 c4,σ=[some (.int n),some (.str z),some (.ref l2),c3,c4])/\aB G2 H') ⟨⟨none,none,rfl⟩,aB.refl _⟩ (λi σ H' _ y=>SqL.of (y.2 _ _ el2)) ?_ ?_⟩
 ·rintro i x σ H3 hx ⟨⟨c3,c4,rfl⟩,s3⟩
  have li:i<11:=(sQ.mp hx).1
  obtain ⟨ko,kv,kw⟩:=fq Z.kt (i:=i) li
  obtain ⟨a,d,rfl,he,zi⟩:=(bM mad hx (y:=List.getD [c_BadWeb,c_NoStep,c_NoText,c_TooMany,c_NoTie,c_NoRing,c_NotClear,c_NotThree,c_BadBoard,c_NoRow,c_NoBack] i 0) (by rw[uI,tE (show i<[c_BadWeb,c_NoStep,c_NoText,c_TooMany,c_NoTie,c_NoRing,c_NotClear,c_NotThree,c_BadBoard,c_NoRow,c_NoBack].length from li)];rfl)).same s3
  refine ⟨_,rfl,a,_,d,_,(i == 0),rfl,he,zi,rfl,ko 0 (by show 0<11;decide),_,rfl,a,_,d,_,(i == 1),rfl,he,zi,rfl,ko 1 (by show 1<11;decide),_,rfl,a,_,d,_,(i == 2),rfl,he,zi,rfl,ko 2 (by show 2<11;decide),(by show 3<=sM;decide),λk0 hk0 =>?_⟩
  have s4:=s3.trans (af hk0 (.lst [.bl (i == 0),.bl (i == 1),.bl (i == 2)]))
  have he:=(af hk0 (.lst [.bl (i == 0),.bl (i == 1),.bl (i == 2)])) _ _ he
  have ek:upd H3 k0 (.lst [.bl (i == 0),.bl (i == 1),.bl (i == 2)]) k0=some (.lst [.bl (i == 0),.bl (i == 1),.bl (i == 2)]):=ae
  generalize upd H3 k0 (.lst [.bl (i == 0),.bl (i == 1),.bl (i == 2)])=H4 at s4 he ek
  refine ⟨_,rfl,_,rfl,a,_,d,_,(i == 3),rfl,he,zi,rfl,ko 3 (by show 3<11;decide),_,rfl,a,_,d,_,(i == 4),rfl,he,zi,rfl,ko 4 (by show 4<11;decide),_,rfl,a,_,d,_,(i == 5),rfl,he,zi,rfl,ko 5 (by show 5<11;decide),(by show 3<=sM;decide),λj1 hj1 =>?_⟩
  have s4:=s4.trans (af hj1 (.lst [.bl (i == 3),.bl (i == 4),.bl (i == 5)]))
  have he:=(af hj1 (.lst [.bl (i == 3),.bl (i == 4),.bl (i == 5)])) _ _ he
  have ek:=(af hj1 (.lst [.bl (i == 3),.bl (i == 4),.bl (i == 5)])) _ _ ek
  have ej:upd H4 j1 (.lst [.bl (i == 3),.bl (i == 4),.bl (i == 5)]) j1=some (.lst [.bl (i == 3),.bl (i == 4),.bl (i == 5)]):=ae
  generalize upd H4 j1 (.lst [.bl (i == 3),.bl (i == 4),.bl (i == 5)])=J1 at s4 he ek ej
  refine ⟨k0,j1,_,_,rfl,rfl,SqL.of ek,SqL.of ej,(by show 6<=sM;decide),λk1 hk1 =>?_⟩
  have s4:=s4.trans (af hk1 (.lst ([.bl (i == 0),.bl (i == 1),.bl (i == 2)]++[.bl (i == 3),.bl (i == 4),.bl (i == 5)])))
  have he:=(af hk1 (.lst ([.bl (i == 0),.bl (i == 1),.bl (i == 2)]++[.bl (i == 3),.bl (i == 4),.bl (i == 5)]))) _ _ he
  have ek:upd J1 k1 (.lst ([.bl (i == 0),.bl (i == 1),.bl (i == 2)]++[.bl (i == 3),.bl (i == 4),.bl (i == 5)])) k1=some (.lst [.bl (i == 0),.bl (i == 1),.bl (i == 2),.bl (i == 3),.bl (i == 4),.bl (i == 5)]):=ae
  generalize upd J1 k1 (.lst ([.bl (i == 0),.bl (i == 1),.bl (i == 2)]++[.bl (i == 3),.bl (i == 4),.bl (i == 5)]))=L1 at s4 he ek
  refine ⟨_,rfl,_,rfl,a,_,d,_,(i == 6),rfl,he,zi,rfl,ko 6 (by show 6<11;decide),_,rfl,a,_,d,_,(i == 7),rfl,he,zi,rfl,ko 7 (by show 7<11;decide),_,rfl,a,_,d,_,(i == 8),rfl,he,zi,rfl,ko 8 (by show 8<11;decide),(by show 3<=sM;decide),λj2 hj2 =>?_⟩
  have s4:=s4.trans (af hj2 (.lst [.bl (i == 6),.bl (i == 7),.bl (i == 8)]))
  have he:=(af hj2 (.lst [.bl (i == 6),.bl (i == 7),.bl (i == 8)])) _ _ he
  have ek:=(af hj2 (.lst [.bl (i == 6),.bl (i == 7),.bl (i == 8)])) _ _ ek
  have ej:upd L1 j2 (.lst [.bl (i == 6),.bl (i == 7),.bl (i == 8)]) j2=some (.lst [.bl (i == 6),.bl (i == 7),.bl (i == 8)]):=ae
  generalize upd L1 j2 (.lst [.bl (i == 6),.bl (i == 7),.bl (i == 8)])=J2 at s4 he ek ej
  refine ⟨k1,j2,_,_,rfl,rfl,SqL.of ek,SqL.of ej,(by show 9<=sM;decide),λk2 hk2 =>?_⟩
  have s4:=s4.trans (af hk2 (.lst ([.bl (i == 0),.bl (i == 1),.bl (i == 2),.bl (i == 3),.bl (i == 4),.bl (i == 5)]++[.bl (i == 6),.bl (i == 7),.bl (i == 8)])))
  have he:=(af hk2 (.lst ([.bl (i == 0),.bl (i == 1),.bl (i == 2),.bl (i == 3),.bl (i == 4),.bl (i == 5)]++[.bl (i == 6),.bl (i == 7),.bl (i == 8)]))) _ _ he
  have ek:upd J2 k2 (.lst ([.bl (i == 0),.bl (i == 1),.bl (i == 2),.bl (i == 3),.bl (i == 4),.bl (i == 5)]++[.bl (i == 6),.bl (i == 7),.bl (i == 8)])) k2=some (.lst [.bl (i == 0),.bl (i == 1),.bl (i == 2),.bl (i == 3),.bl (i == 4),.bl (i == 5),.bl (i == 6),.bl (i == 7),.bl (i == 8)]):=ae
  generalize upd J2 k2 (.lst ([.bl (i == 0),.bl (i == 1),.bl (i == 2),.bl (i == 3),.bl (i == 4),.bl (i == 5)]++[.bl (i == 6),.bl (i == 7),.bl (i == 8)]))=L2 at s4 he ek
  refine ⟨_,rfl,_,rfl,a,_,d,_,(i == 9),rfl,he,zi,rfl,ko 9 (by show 9<11;decide),_,rfl,a,_,d,_,(i == 10),rfl,he,zi,rfl,ko 10 (by show 10<11;decide),(by show 2<=sM;decide),λj3 hj3 =>?_⟩
  have s4:=s4.trans (af hj3 (.lst [.bl (i == 9),.bl (i == 10)]))
  have he:=(af hj3 (.lst [.bl (i == 9),.bl (i == 10)])) _ _ he
  have ek:=(af hj3 (.lst [.bl (i == 9),.bl (i == 10)])) _ _ ek
  have ej:upd L2 j3 (.lst [.bl (i == 9),.bl (i == 10)]) j3=some (.lst [.bl (i == 9),.bl (i == 10)]):=ae
  generalize upd L2 j3 (.lst [.bl (i == 9),.bl (i == 10)])=J3 at s4 he ek ej
  refine ⟨k2,j3,_,_,rfl,rfl,SqL.of ek,SqL.of ej,(by show 11<=sM;decide),λk3 hk3 =>?_⟩
  have s4:=s4.trans (af hk3 (.lst ([.bl (i == 0),.bl (i == 1),.bl (i == 2),.bl (i == 3),.bl (i == 4),.bl (i == 5),.bl (i == 6),.bl (i == 7),.bl (i == 8)]++[.bl (i == 9),.bl (i == 10)])))
  have he:=(af hk3 (.lst ([.bl (i == 0),.bl (i == 1),.bl (i == 2),.bl (i == 3),.bl (i == 4),.bl (i == 5),.bl (i == 6),.bl (i == 7),.bl (i == 8)]++[.bl (i == 9),.bl (i == 10)]))) _ _ he
  have ek:upd J3 k3 (.lst ([.bl (i == 0),.bl (i == 1),.bl (i == 2),.bl (i == 3),.bl (i == 4),.bl (i == 5),.bl (i == 6),.bl (i == 7),.bl (i == 8)]++[.bl (i == 9),.bl (i == 10)])) k3=some (.lst [.bl (i == 0),.bl (i == 1),.bl (i == 2),.bl (i == 3),.bl (i == 4),.bl (i == 5),.bl (i == 6),.bl (i == 7),.bl (i == 8),.bl (i == 9),.bl (i == 10)]):=ae
  generalize upd J3 k3 (.lst ([.bl (i == 0),.bl (i == 1),.bl (i == 2),.bl (i == 3),.bl (i == 4),.bl (i == 5),.bl (i == 6),.bl (i == 7),.bl (i == 8)]++[.bl (i == 9),.bl (i == 10)]))=L3 at s4 he ek
  have c1:=qW i li
  refine ⟨_,rfl,.inl ⟨rfl,_,SqL.of ek⟩,k3,[i == 0,i == 1,i == 2,i == 3,i == 4,i == 5,i == 6,i == 7,i == 8,i == 9,i == 10],true,rfl,rfl,ek,rfl,_,rfl,?_⟩
  rw[c1]
  refine ph rfl ⟨_,rfl,a,_,d,_,true,rfl,he,zi,rfl,kv,_,rfl,aR ⟨_,rfl,a,_,d,_,true,rfl,he,zi,rfl,kw,_,rfl,aR ⟨⟨_,_,rfl⟩,s4⟩⟩⟩
 rintro σ H3 ⟨⟨c3,c4,rfl⟩,s3⟩
 have e0:=s3 _ _ e0
 have t0:=s3 _ _ t0
 have e1:=s3 _ _ e1
 have t1:=s3 _ _ t1
 have e2:=s3 _ _ e2
 have t2:=s3 _ _ t2
 have el2:=s3 _ _ el2
 refine ⟨_,rfl,l2,_,0,_,rfl,rfl,SqL.of el2,rfl,a0,_,x0,_,_,rfl,e0,t0,(bJ Z.xn_BadWeb).1,(aI Z.xi_BadWeb).1,(bJ Z.xn_BadWeb).2.na,rfl,_,rfl,l2,_,1,_,rfl,rfl,SqL.of el2,rfl,a1,_,x1,_,_,rfl,e1,t1,(bJ Z.xn_NoStep).1,(aI Z.xi_NoStep).1,(bJ Z.xn_NoStep).2.na,rfl,_,rfl,l2,_,2,_,rfl,rfl,SqL.of el2,rfl,a2,_,x2,_,_,rfl,e2,t2,(bJ Z.xn_NoText).1,(aI Z.xi_NoText).1,(bJ Z.xn_NoText).2.na,rfl,(by show 3<=sM;decide),λp1 hp1 =>?_⟩
 have g1:=af hp1 (.lst [.int n,.int n,.int n])
 have f1:upd H3 p1 (.lst [.int n,.int n,.int n]) p1=some (.lst ([n,n,n].map V.int)):=ae
 have s5:=s3.trans g1
 generalize upd H3 p1 (.lst [.int n,.int n,.int n])=H4 at g1 f1 s5
 refine ⟨_,rfl,_,rfl,_,rfl,(by show 3<=sM;decide),λp2 hp2 =>?_⟩
 have g2:=af hp2 (.lst [.int n,.int n,.int n])
 have f2:upd H4 p2 (.lst [.int n,.int n,.int n]) p2=some (.lst ([n,n,n].map V.int)):=ae
 have f1:=g2 _ _ f1
 have s6:=s5.trans g2
 generalize upd H4 p2 (.lst [.int n,.int n,.int n])=H5 at g2 f1 f2 s6
 refine ⟨p1,p2,_,_,rfl,rfl,SqL.of f1,SqL.of f2,?_⟩
 rw[decide_eq_true rfl]
 exact q _ (sH.trans s6)
end
open PySem L2
theorem fW {r p:Addr}{H H1:Hp}(s:SB r H H1)(l:Lf r H1)(h:H1 p=none):H p=none:=by
 cases q:H p with
 | none=>rfl
 | some u =>
  have n:p≠r:=l.ne h
  rw[s p u n q] at h;cases h
theorem none_of {p:Addr}{H H1:Hp}(s:aB H H1)(h:H1 p=none):H p=none:=by
 cases q:H p with
 | none=>rfl
 | some u=>rw[s p u q] at h;cases h
theorem Itm.sb {H H':Hp}{r:Addr}{m:Int}{x:V}{b:Bool}(s:SB r H H')(l:Lf r H)(n:x ≠ .ref r)(h:Itm H m x b):Itm H' m x b:=h.bT (s.tp l) λa u e q=>s a u (λz=>n (by rw[e,z])) q
theorem nC {H:Hp}{p:Addr}{o1 o2:HO}(h:H p=none):aB H (upd (upd H p o1) p o2):=λb u e=>by
 have n:b≠p:=aj e h
 rw[ai n,ai n];exact e
theorem nD {m d1 d2:Int}(h1:0<=d1)(h2:0<=d2):m<=m+d1*d2:=by
 have:=zo h1 h2
 omega
theorem nE {m f:Int}(h:m<=f):pl m (.int f)=false:=by
 show (decide (0<=f) && decide (f<m))=false
 rw[decide_eq_false (by omega:¬ f<m),wx]
theorem nF {m f:Int}(h:f<0):pl m (.int f)=false:=by
 show (decide (0<=f) && decide (f<m))=false
 rw[decide_eq_false (by omega:¬ 0<=f),xo]
theorem kG:(0:Int)<10 ^ (30:Int).toNat/\(10:Int) ^ (30:Int).toNat<2 ^ 200:=by decide
abbrev nG:Sp:=λvs H Q _=>∃(r:Addr) (m:Int),vs=[.ref r,.int m]/\Lf r H/\0<=m/\∀v H',SB r H H'->Lf r H'->Itm H' m v false->(∀a,v = .ref a->H a=none)->Q v H'
@[irreducible] def kH:Sp:=nG
theorem eI {vs:List V}{H:Hp}{Q:VK}{E:XK}:kH vs H Q E↔nG vs H Q E:=by
 delta kH
 exact wB
section
variable  {P:tj}{w:ud}{K:sI}{mg:Str->Option sJ}{base:Heap}{f T:Addr}{fd:uh}
theorem nH:aP ["left", "many", "far"] ["left", "many"] (au kn):=⟨rfl,rfl,rfl,by decide +kernel,rfl,by decide +kernel,by decide +kernel⟩
theorem qX (F:Fun K "_law_odd" "_law_odd" kn f fd)(B:Blt mg)(cLNext:Cal P w K mg base 1 "_law_next" ["left", "many"] cH)(C:Cst mg):aZ P w K mg base CX0 2 f fd ["left", "many"] kH:=by
 refine F.ok nH (λvs H Q E h =>?_) (λcdv A outer s H vs Q E hr h =>?_)
 ·obtain ⟨_,_,rfl,_⟩:=eI.mp h
  rfl
 obtain ⟨r,m,rfl,lf,m0,q⟩:=eI.mp h
 have hu:(fz CX0 P w K mg base ["left", "many", "far"] "_law_odd" (au kn) f cdv A outer s H E).nox.A.units+1<cLine:=rP hr
 refine ⟨_,(@ak _ _ _ _ _ (@aG _ _ 2 _ _ _ _ nH.nd rfl (Or.inl rfl) (@aM _ _ _ _ _ _ _ _ bQ (pv 1) (@aM _ _ _ _ _ _ _ _ du (aD cLNext hr (by decide) rfl (@aa _ _ _ _ _ (pv 0) (@aa _ _ _ _ _ (@aM _ _ _ _ _ _ _ _ gP ah ah) ag rfl) rfl)) (aD cLNext hr (by decide) rfl (@aa _ _ _ _ _ (pv 0) (@aa _ _ _ _ _ ah ag rfl) rfl)))) rfl (by first | exact .inl rfl | exact .inr rfl | assumption))
  (@av _ _ _ (@bu _ _ _ _ (@b8 _ _ _ _ _ _ _ bE (@aF _ _ _ _ (@aa _ _ _ _ _ (@bg _ _ _ _ _ (@aa _ _ _ _ _ ah (@aa _ _ _ _ _ (pv 2) ag rfl) rfl)) (@aa _ _ _ _ _ (@bg _ _ _ _ _ (@aa _ _ _ _ _ (pv 2) (@aa _ _ _ _ _ ah ag rfl) rfl)) (@aa _ _ _ _ _ (@aF _ _ _ _ (@aa _ _ _ _ _ ah (@aa _ _ _ _ _ (gj d9 ah) ag rfl) rfl)) (@aa _ _ _ _ _ (@bg _ _ _ _ _ (@aa _ _ _ _ _ (@aM _ _ _ _ _ _ _ _ fx (gj d9 ah) (pv 2)) (@aa _ _ _ _ _ ah ag rfl) rfl)) (@aa _ _ _ _ _ (@bg _ _ _ _ _ (@aa _ _ _ _ _ ah ag rfl)) (@aa _ _ _ _ _ (@bg _ _ _ _ _ (@aa _ _ _ _ _ ah (@aa _ _ _ _ _ ah (@aa _ _ _ _ _ ah ag rfl) rfl) rfl)) (@aa _ _ _ _ _ (@aF _ _ _ _ ag) (@aa _ _ _ _ _ ah (@aa _ _ _ _ _ cx (@aa _ _ _ _ _ bC (@aa _ _ _ _ _ (@bg _ _ _ _ _ (@aa _ _ _ _ _ eM (@aa _ _ _ _ _ ah ag rfl) rfl)) (@aa _ _ _ _ _ (@aF _ _ _ _ (@aa _ _ _ _ _ ah (@aa _ _ _ _ _ eM ag rfl) rfl)) (@aa _ _ _ _ _ (@bg _ _ _ _ _ (@aa _ _ _ _ _ bC (@aa _ _ _ _ _ ah ag rfl) rfl)) (@aa _ _ _ _ _ (oF (mF ah ah oE) rfl rfl (by simp) (by decide)) (@aa _ _ _ _ _ (@bg _ _ _ _ _ (@aa _ _ _ _ _ (@bg _ _ _ _ _ (@aa _ _ _ _ _ ah (@aa _ _ _ _ _ ah ag rfl) rfl)) (@aa _ _ _ _ _ ah ag rfl) rfl)) ag rfl) rfl) rfl) rfl) rfl) rfl) rfl) rfl) rfl) rfl) rfl) rfl) rfl) rfl) rfl)) (aD cLNext hr (by decide) rfl (@aa _ _ _ _ _ (pv 0) (@aa _ _ _ _ _ ah ag rfl) rfl)) (λ_ _=>rfl))))),?_⟩
 refine ⟨_,rfl,_,rfl,_,_,rfl,rfl,⟨by decide,by decide,by decide⟩,bH lf kG.1 kG.2 λd1 G1 d10 _ sb1 lf1 =>?_⟩
 refine ⟨_,rfl,bH lf1 (by decide) (by decide) λd2 G2 d20 d21 sb2 lf2=>⟨_,_,rfl,rfl,.inr ⟨by omega,by omega⟩,_,_,rfl,rfl,?_⟩⟩
 have fm:=nD (m:=m) d10 d20
 try dsimp only
 generalize m+d1*d2=far at fm
 refine ⟨_,rfl,(by show 2<=sM;decide),λp0 h0 =>?_⟩
 try dsimp only
 have s0:=af h0 (.tup [.int 0,.int far])
 have e0:upd G2 p0 (.tup [.int 0,.int far]) p0=some (.tup [.int 0,.int far]):=ae
 generalize upd G2 p0 (.tup [.int 0,.int far])=O0 at s0 e0
 refine ⟨_,rfl,(by show 2<=sM;decide),λp1 h1 =>?_⟩
 try dsimp only
 have s1:=af h1 (.tup [.int far,.int 0])
 have e1:upd O0 p1 (.tup [.int far,.int 0]) p1=some (.tup [.int far,.int 0]):=ae
 generalize upd O0 p1 (.tup [.int far,.int 0])=O1 at s1 e1
 refine ⟨_,rfl,(by show 2<=sM;decide),λp2 h2 =>?_⟩
 try dsimp only
 have s2:=af h2 (.lst [.int 0,.int (-1)])
 have e2:upd O1 p2 (.lst [.int 0,.int (-1)]) p2=some (.lst [.int 0,.int (-1)]):=ae
 generalize upd O1 p2 (.lst [.int 0,.int (-1)])=O2 at s2 e2
 refine ⟨_,rfl,_,rfl,_,_,rfl,rfl,(by show 2<=sM;decide),λp3 h3 =>?_⟩
 try dsimp only
 have s3:=af h3 (.tup [.int (-1-far),.int 0])
 have e3:upd O2 p3 (.tup [.int (-1-far),.int 0]) p3=some (.tup [.int (-1-far),.int 0]):=ae
 generalize upd O2 p3 (.tup [.int (-1-far),.int 0])=O3 at s3 e3
 refine ⟨(by show 1<=sM;decide),λp4 h4 =>?_⟩
 try dsimp only
 have s4:=af h4 (.tup [.int 0])
 have e4:upd O3 p4 (.tup [.int 0]) p4=some (.tup [.int 0]):=ae
 generalize upd O3 p4 (.tup [.int 0])=O4 at s4 e4
 refine ⟨(by show 3<=sM;decide),λp5 h5 =>?_⟩
 try dsimp only
 have s5:=af h5 (.tup [.int 0,.int 0,.int 0])
 have e5:upd O4 p5 (.tup [.int 0,.int 0,.int 0]) p5=some (.tup [.int 0,.int 0,.int 0]):=ae
 generalize upd O4 p5 (.tup [.int 0,.int 0,.int 0])=O5 at s5 e5
 refine ⟨(by show 0<=sM;decide),λp6 h6 =>?_⟩
 try dsimp only
 have s6:=af h6 (.lst [])
 have e6:upd O5 p6 (.lst []) p6=some (.lst []):=ae
 generalize upd O5 p6 (.lst [])=O6 at s6 e6
 refine ⟨(by show 2<=sM;decide),λp7 h7 =>?_⟩
 try dsimp only
 have s7:=af h7 (.tup [.bl true,.int 0])
 have e7:upd O6 p7 (.tup [.bl true,.int 0]) p7=some (.tup [.bl true,.int 0]):=ae
 generalize upd O6 p7 (.tup [.bl true,.int 0])=O7 at s7 e7
 refine ⟨(by show 2<=sM;decide),λp8 h8 =>?_⟩
 try dsimp only
 have s8:=af h8 (.lst [.int 0,.bl false])
 have e8:upd O7 p8 (.lst [.int 0,.bl false]) p8=some (.lst [.int 0,.bl false]):=ae
 generalize upd O7 p8 (.lst [.int 0,.bl false])=O8 at s8 e8
 refine ⟨(by show 2<=sM;decide),λp9 h9 =>?_⟩
 try dsimp only
 have s9:=af h9 (.tup [.str "0",.int 0])
 have e9:upd O8 p9 (.tup [.str "0",.int 0]) p9=some (.tup [.str "0",.int 0]):=ae
 generalize upd O8 p9 (.tup [.str "0",.int 0])=O9 at s9 e9
 refine λp10 h10=>⟨ae,[(.inl 0,.int 0)],rfl,(by show 1<=15;decide),?_⟩
 have s10:aB O9 (upd (upd O9 p10 (.dK [])) p10 (.dK (cF [] [(.inl 0,.int 0)]))):=nC h10
 have e10:upd (upd O9 p10 (.dK [])) p10 (.dK (cF [] [(.inl 0,.int 0)])) p10=some (.dK (cF [] [(.inl 0,.int 0)])):=ae
 generalize upd (upd O9 p10 (.dK [])) p10 (.dK (cF [] [(.inl 0,.int 0)]))=O10 at s10 e10
 refine ⟨(by show 2<=sM;decide),λp11 h11 =>?_⟩
 try dsimp only
 have s11:=af h11 (.tup [.int 0,.int 0])
 have e11:upd O10 p11 (.tup [.int 0,.int 0]) p11=some (.tup [.int 0,.int 0]):=ae
 generalize upd O10 p11 (.tup [.int 0,.int 0])=O11 at s11 e11
 refine ⟨(by show 2<=sM;decide),λp12 h12 =>?_⟩
 try dsimp only
 have s12:=af h12 (.tup [.ref p11,.int 0])
 have e12:upd O11 p12 (.tup [.ref p11,.int 0]) p12=some (.tup [.ref p11,.int 0]):=ae
 generalize upd O11 p12 (.tup [.ref p11,.int 0])=O12 at s12 e12
 refine ⟨(by show 15<=sM;decide),λp13 h13 =>?_⟩
 try dsimp only
 have s13:=af h13 (.lst [.ref p0,.ref p1,.ref p2,.ref p3,.ref p4,.ref p5,.ref p6,.int 0,.non,.str "ab",.ref p7,.ref p8,.ref p9,.ref p10,.ref p12])
 have e13:upd O12 p13 (.lst [.ref p0,.ref p1,.ref p2,.ref p3,.ref p4,.ref p5,.ref p6,.int 0,.non,.str "ab",.ref p7,.ref p8,.ref p9,.ref p10,.ref p12]) p13=some (.lst [.ref p0,.ref p1,.ref p2,.ref p3,.ref p4,.ref p5,.ref p6,.int 0,.non,.str "ab",.ref p7,.ref p8,.ref p9,.ref p10,.ref p12]):=ae
 generalize upd O12 p13 (.lst [.ref p0,.ref p1,.ref p2,.ref p3,.ref p4,.ref p5,.ref p6,.int 0,.non,.str "ab",.ref p7,.ref p8,.ref p9,.ref p10,.ref p12])=O13 at s13 e13
 have sA:aB G2 O9:=(s0.trans (s1.trans (s2.trans (s3.trans (s4.trans (s5.trans (s6.trans (s7.trans (s8.trans s9)))))))))
 have sB:aB O9 O13:=s10.trans (s11.trans (s12.trans s13))
 have S13:=aB.refl O13
 have S12:=s13.trans S13
 have S11:=s12.trans S12
 have S10:=s11.trans S11
 have S9:=s10.trans S10
 have S8:=s9.trans S9
 have S7:=s8.trans S8
 have S6:=s7.trans S7
 have S5:=s6.trans S6
 have S4:=s5.trans S5
 have S3:=s4.trans S4
 have S2:=s3.trans S3
 have S1:=s2.trans S2
 have S0:=s1.trans S1
 have N0:=aB.refl G2
 have N1:=N0.trans s0
 have N2:=N1.trans s1
 have N3:=N2.trans s2
 have N4:=N3.trans s3
 have N5:=N4.trans s4
 have N6:=N5.trans s5
 have N7:=N6.trans s6
 have N8:=N7.trans s7
 have N9:=N8.trans s8
 have N10:=N9.trans s9
 have N11:=N10.trans s10
 have N12:=N11.trans s11
 have N13:=N12.trans s12
 refine ⟨_,rfl,bH (((lf2.same sA).same sB)) (by decide) (by decide) λd G3 dd0 dd1 sb3 lf3 =>?_⟩
 have nr:∀{p:Addr} {u:HO},O13 p=some u->(∀n:Int,u ≠ .lst [.int n])->p≠r:=λ{p u} e n z=>by
  obtain ⟨k,q⟩:=(lf2.same sA).same sB
  rw[z,q] at e
  exact n k (tV e).symm
 have e0:=S0 _ _ e0
 have e1:=S1 _ _ e1
 have e2:=S2 _ _ e2
 have e3:=S3 _ _ e3
 have e4:=S4 _ _ e4
 have e5:=S5 _ _ e5
 have e6:=S6 _ _ e6
 have e7:=S7 _ _ e7
 have e8:=S8 _ _ e8
 have e9:=S9 _ _ e9
 have e10:=S10 _ _ e10
 have e11:=S11 _ _ e11
 have e12:=S12 _ _ e12
 have e0:=sb3 _ _ (nr e0 (λn z=>by cases z)) e0
 have e1:=sb3 _ _ (nr e1 (λn z=>by cases z)) e1
 have e2:=sb3 _ _ (nr e2 (λn z=>by cases z)) e2
 have e3:=sb3 _ _ (nr e3 (λn z=>by cases z)) e3
 have e4:=sb3 _ _ (nr e4 (λn z=>by cases z)) e4
 have e5:=sb3 _ _ (nr e5 (λn z=>by cases z)) e5
 have e6:=sb3 _ _ (nr e6 (λn z=>by cases z)) e6
 have e7:=sb3 _ _ (nr e7 (λn z=>by cases z)) e7
 have e8:=sb3 _ _ (nr e8 (λn z=>by cases z)) e8
 have e9:=sb3 _ _ (nr e9 (λn z=>by cases z)) e9
 have e10:=sb3 _ _ (nr e10 (λn z=>by cases z)) e10
 have e11:=sb3 _ _ (nr e11 (λn z=>by cases z)) e11
 have e12:=sb3 _ _ (nr e12 (λn z=>by cases z)) e12
 have e13:=sb3 _ _ (nr e13 (λn z=>by cases z)) e13
 have hI:∀x∈([.ref p0,.ref p1,.ref p2,.ref p3,.ref p4,.ref p5,.ref p6,.int 0,.non,.str "ab",.ref p7,.ref p8,.ref p9,.ref p10,.ref p12]:List V),Itm G3 m x false/\∀a,x = .ref a->H a=none:=by
  have no:∀{p:Addr} {G:Hp},aB G2 G->G p=none->H p=none:=λs e=>fW (sb1.trans sb2) lf2 (none_of s e)
  intro x hx
  simp only[tG,uT,or_false] at hx
  rcases hx with rfl | rfl | rfl | rfl | rfl | rfl | rfl | rfl | rfl | rfl | rfl | rfl | rfl | rfl | rfl
  ·exact ⟨.pr (.inr e0) (.int _) (.int _) (by rw[nE fm,wx]),λa z=>by cases z;exact no N0 h0⟩
  ·exact ⟨.pr (.inr e1) (.int _) (.int _) (by rw[nE fm,xo]),λa z=>by cases z;exact no N1 h1⟩
  ·exact ⟨.pr (.inl e2) (.int _) (.int _) (by rw[nF (by decide:(-1:Int)<0),wx]),λa z=>by cases z;exact no N2 h2⟩
  ·exact ⟨.pr (.inr e3) (.int _) (.int _) (by rw[nF (by omega:(-1-far:Int)<0),xo]),λa z=>by cases z;exact no N3 h3⟩
  ·exact ⟨.len (.inr e4) (by decide),λa z=>by cases z;exact no N4 h4⟩
  ·exact ⟨.len (.inr e5) (by decide),λa z=>by cases z;exact no N5 h5⟩
  ·exact ⟨.len (.inl e6) (by decide),λa z=>by cases z;exact no N6 h6⟩
  ·exact ⟨.flat (.int _),λa z=>by cases z⟩
  ·exact ⟨.flat .non,λa z=>by cases z⟩
  ·exact ⟨.flat (.str _),λa z=>by cases z⟩
  ·exact ⟨.pr (.inr e7) (.bl _) (.int _) (by show (false && _)=false;rfl),λa z=>by cases z;exact no N7 h7⟩
  ·exact ⟨.pr (.inl e8) (.int _) (.bl _) (wx _),λa z=>by cases z;exact no N8 h8⟩
  ·exact ⟨.pr (.inr e9) (.str _) (.int _) (by show (false && _)=false;rfl),λa z=>by cases z;exact no N9 h9⟩
  ·exact ⟨.flat (.dic e10),λa z=>by cases z;exact no N10 h10⟩
  ·exact ⟨.pr (.inr e12) (.tup e11) (.int _) (by show (false && _)=false;rfl),λa z=>by cases z;exact no N12 h12⟩
 obtain ⟨n,rfl⟩:∃n:Nat,d=n:=⟨d.toNat,by omega⟩
 have ln:n<([.ref p0,.ref p1,.ref p2,.ref p3,.ref p4,.ref p5,.ref p6,.int 0,.non,.str "ab",.ref p7,.ref p8,.ref p9,.ref p10,.ref p12]:List V).length:=by show n<15;omega
 obtain ⟨i1,i2⟩:=hI _ (xO ln)
 exact ⟨p13,_,n,_,rfl,rfl,SqL.of e13,cY (tE ln),q _ _ ((sb1.trans sb2).trans ((aB.sb (sA.trans sB)).trans sb3)) lf3 i1 i2⟩
end
open PySem L2
theorem Bad.bT {H H':Hp}{M T:V}(k:∀a u,(M = .ref a\/T = .ref a)->H a=some u->H' a=some u)(h:Bad H M T):Bad H' M T:=by
 cases h with
 | flt f w=>exact .flt (f.bT λa u e=>k a u (.inl e)) w
 | sq e=>exact .sq (e.imp (k _ _ (.inl rfl)) (k _ _ (.inl rfl)))
 | num h=>exact .num h
 | row h0 h1 f=>exact .row h0 h1 (f.bT λa u e=>k a u (.inr e))
theorem Bad.same {H H':Hp}{M T:V}(s:aB H H')(h:Bad H M T):Bad H' M T:=h.bT λa u _ e=>s a u e
abbrev kI:Sp:=λvs H Q _=>∃(r:Addr) (m:Int),vs=[.ref r,.int m]/\Lf r H/\0<=m/\m<=40/\∀(t:Addr) (M:V) (wr:Bool) H',SB r H H'->Lf r H'->H' t=some (.tup [M,.bl wr])->((wr=false/\M = .int m)\/(wr=true/\∀x,Bad H' M (.int x)/\(∀(a:Addr),Bad H' M (.ref a))))->Q (.ref t) H'
@[irreducible] def iG:Sp:=kI
theorem dD {vs:List V}{H:Hp}{Q:VK}{E:XK}:iG vs H Q E↔kI vs H Q E:=by
 delta iG
 exact wB
section
variable  {P:tj}{w:ud}{K:sI}{mg:Str->Option sJ}{base:Heap}{f T:Addr}{fd:uh}
theorem iH:aP ["left", "many", "far", "kind"] ["left", "many"] (au jI):=⟨rfl,rfl,rfl,by decide +kernel,rfl,by decide +kernel,by decide +kernel⟩
theorem oY (F:Fun K "_law_many" "_law_many" jI f fd)(B:Blt mg)(cLNext:Cal P w K mg base 1 "_law_next" ["left", "many"] cH)(C:Cst mg):aZ P w K mg base CX0 2 f fd ["left", "many"] iG:=by
 refine F.ok iH (λvs H Q E h =>?_) (λcdv A outer s H vs Q E hr h =>?_)
 ·obtain ⟨_,_,rfl,_⟩:=dD.mp h
  rfl
 obtain ⟨r,m,rfl,lf,m0,m1,q⟩:=dD.mp h
 refine ⟨_,(@ak _ _ _ _ _ (@aG _ _ 2 _ _ _ _ iH.nd rfl (Or.inl rfl) (@aM _ _ _ _ _ _ _ _ bQ ah (@aM _ _ _ _ _ _ _ _ du (aD cLNext hr (by decide) rfl (@aa _ _ _ _ _ (pv 0) (@aa _ _ _ _ _ (@aM _ _ _ _ _ _ _ _ gP ah ah) ag rfl) rfl)) (aD cLNext hr (by decide) rfl (@aa _ _ _ _ _ (pv 0) (@aa _ _ _ _ _ ah ag rfl) rfl)))) rfl (by first | exact .inl rfl | exact .inr rfl | assumption))
  (@ak _ _ _ _ _ (@aG _ _ 3 _ _ _ _ iH.nd rfl (Or.inl rfl) (aD cLNext hr (by decide) rfl (@aa _ _ _ _ _ (pv 0) (@aa _ _ _ _ _ ah ag rfl) rfl)) rfl (by first | exact .inl rfl | exact .inr rfl | assumption))
  (@av _ _ _ (@bu _ _ _ _ (@bg _ _ _ _ _ (@aa _ _ _ _ _ (@b8 _ _ _ _ _ _ _ bE (@aF _ _ _ _ (@aa _ _ _ _ _ (pv 1) (@aa _ _ _ _ _ (pv 1) (@aa _ _ _ _ _ (pv 1) (@aa _ _ _ _ _ (pv 1) (@aa _ _ _ _ _ (pv 1) (@aa _ _ _ _ _ (gj d9 ah) (@aa _ _ _ _ _ (pv 2) (@aa _ _ _ _ _ (@aM _ _ _ _ _ _ _ _ fx ah (pv 2)) (@aa _ _ _ _ _ cx (@aa _ _ _ _ _ eM (@aa _ _ _ _ _ eM (@aa _ _ _ _ _ bC (@aa _ _ _ _ _ (@aF _ _ _ _ (@aa _ _ _ _ _ ah ag rfl)) (@aa _ _ _ _ _ (@bg _ _ _ _ _ (@aa _ _ _ _ _ ah (@aa _ _ _ _ _ ah ag rfl) rfl)) ag rfl) rfl) rfl) rfl) rfl) rfl) rfl) rfl) rfl) rfl) rfl) rfl) rfl) rfl)) (pv 3) (λ_ _=>rfl)) (@aa _ _ _ _ _ (fe jR (pv 3) ah (bp _)) ag rfl) rfl)))))),?_⟩
 refine ⟨_,rfl,_,_,rfl,rfl,⟨by decide,by decide,by decide⟩,bH lf kG.1 kG.2 λd1 G1 d10 _ sb1 lf1 =>?_⟩
 refine ⟨_,rfl,bH lf1 (by decide) (by decide) λd2 G2 d20 d21 sb2 lf2=>⟨_,_,rfl,rfl,.inr ⟨by omega,by omega⟩,_,_,rfl,rfl,?_⟩⟩
 try dsimp only
 have fm:=nD (m:=41) d10 d20
 generalize 41+d1*d2=far at fm
 refine ⟨_,rfl,bH lf2 (by decide) (by decide) λd G3 d0 d1' sb3 lf3 =>?_⟩
 refine ⟨_,rfl,_,rfl,_,rfl,_,rfl,_,rfl,_,rfl,_,rfl,_,rfl,_,_,rfl,rfl,(by show 1<=sM;decide),λp0 h0 =>?_⟩
 try dsimp only
 have s0:=af h0 (.lst [.int 3])
 have e0:upd G3 p0 (.lst [.int 3]) p0=some (.lst [.int 3]):=ae
 generalize upd G3 p0 (.lst [.int 3])=O0 at s0 e0
 refine ⟨(by show 2<=sM;decide),λp1 h1 =>?_⟩
 try dsimp only
 have s1:=af h1 (.tup [.int 3,.int 3])
 have e1:upd O0 p1 (.tup [.int 3,.int 3]) p1=some (.tup [.int 3,.int 3]):=ae
 generalize upd O0 p1 (.tup [.int 3,.int 3])=O1 at s1 e1
 refine ⟨(by show 14<=sM;decide),λp2 h2 =>?_⟩
 try dsimp only
 have s2:=af h2 (.lst [.int m,.int m,.int m,.int m,.int m,.int (-1),.int far,.int (0-far),.non,.bl true,.bl false,.str "3",.ref p0,.ref p1])
 have e2:upd O1 p2 (.lst [.int m,.int m,.int m,.int m,.int m,.int (-1),.int far,.int (0-far),.non,.bl true,.bl false,.str "3",.ref p0,.ref p1]) p2=some (.lst [.int m,.int m,.int m,.int m,.int m,.int (-1),.int far,.int (0-far),.non,.bl true,.bl false,.str "3",.ref p0,.ref p1]):=ae
 generalize upd O1 p2 (.lst [.int m,.int m,.int m,.int m,.int m,.int (-1),.int far,.int (0-far),.non,.bl true,.bl false,.str "3",.ref p0,.ref p1])=O2 at s2 e2
 have sA:aB G3 O2:=s0.trans (s1.trans s2)
 have lf4:=lf3.same sA
 have e0:=s2 _ _ (s1 _ _ e0)
 have e1:=s2 _ _ e1
 obtain ⟨n,rfl⟩:∃n:Nat,d=n:=⟨d.toNat,by omega⟩
 have ln:n<14:=by omega
 have key:∀(t:Addr) (H':Hp) (M:V),([.int m,.int m,.int m,.int m,.int m,.int (-1),.int far,.int (0-far),.non,.bl true,.bl false,.str "3",.ref p0,.ref p1]:List V)[n]? = some M->aB O2 H'->((decide ((n:Int)>4)=false/\M = .int m)\/(decide ((n:Int)>4)=true/\∀x,Bad H' M (.int x)/\(∀(a:Addr),Bad H' M (.ref a)))):=λt H' M e s=>by
  have e0:=s _ _ e0
  have e1:=s _ _ e1
  match n,ln with
  | 0,_=>cases e;exact .inl ⟨by decide,rfl⟩
  | 1,_=>cases e;exact .inl ⟨by decide,rfl⟩
  | 2,_=>cases e;exact .inl ⟨by decide,rfl⟩
  | 3,_=>cases e;exact .inl ⟨by decide,rfl⟩
  | 4,_=>cases e;exact .inl ⟨by decide,rfl⟩
  | 5,_=>cases e;exact .inr ⟨by decide,λx=>⟨.num (.inl (by decide)),λa =>.num (.inl (by decide))⟩⟩
  | 6,_=>cases e;exact .inr ⟨by decide,λx=>⟨.num (.inr (by omega)),λa =>.num (.inr (by omega))⟩⟩
  | 7,_=>cases e;exact .inr ⟨by decide,λx=>⟨.num (.inl (by omega)),λa =>.num (.inl (by omega))⟩⟩
  | 8,_=>cases e;exact .inr ⟨by decide,λx=>⟨.flt .non rfl,λa =>.flt .non rfl⟩⟩
  | 9,_=>cases e;exact .inr ⟨by decide,λx=>⟨.flt (.bl _) rfl,λa =>.flt (.bl _) rfl⟩⟩
  | 10,_=>cases e;exact .inr ⟨by decide,λx=>⟨.flt (.bl _) rfl,λa =>.flt (.bl _) rfl⟩⟩
  | 11,_=>cases e;exact .inr ⟨by decide,λx=>⟨.flt (.str _) rfl,λa =>.flt (.str _) rfl⟩⟩
  | 12,_=>cases e;exact .inr ⟨by decide,λx=>⟨.sq (.inl e0),λa =>.sq (.inl e0)⟩⟩
  | 13,_=>cases e;exact .inr ⟨by decide,λx=>⟨.sq (.inr e1),λa =>.sq (.inr e1)⟩⟩
  | n+14,h=>exact absurd h (by omega)
 have gn:=tE (l:=([.int m,.int m,.int m,.int m,.int m,.int (-1),.int far,.int (0-far),.non,.bl true,.bl false,.str "3",.ref p0,.ref p1]:List V)) (show n<14 from ln)
 refine ⟨_,rfl,p2,_,n,_,rfl,rfl,SqL.of e2,cY gn,_,rfl,_,_,rfl,rfl,(by show 2<=sM;decide),λt ht =>?_⟩
 have g:=af ht (.tup [([.int m,.int m,.int m,.int m,.int m,.int (-1),.int far,.int (0-far),.non,.bl true,.bl false,.str "3",.ref p0,.ref p1]:List V)[n]'ln,.bl (decide ((n:Int)>4))])
 exact q t _ _ _ ((sb1.trans (sb2.trans sb3)).trans (aB.sb (sA.trans g))) (lf4.same g) ae (key t _ _ gn g)
end
open PySem L2
theorem eJ {X:Cx}{body:List Stmt}{D0:Ends}{σ0:St}{H0:Hp}(sts:List Stmt)(M:St->Hp->Prop)(h:∃t2,PSs X sts t2/\∀σ H,M σ H->t2 D0 σ H)
  (g:∀t2,PSs X sts t2->(∀σ H,M σ H->t2 D0 σ H)->∃t,PSs X body t/\t D0 σ0 H0):∃t,PSs X body t/\t D0 σ0 H0:=by
 obtain ⟨t2,p2,m2⟩:=h
 exact g t2 p2 m2
theorem oZ {α β:Type}{F:α -> β -> Prop}:∀{l:List α} {m:List β} (i:Nat),Paired F l m->Paired F (l.take i) (m.take i)
 | _,_,0,_ =>.nil
 | _,_,_+1,.nil =>.nil
 | _,_,i+1,.cons r t =>.cons r (oZ i t)
theorem nI {α β:Type}{F:α -> β -> Prop}{v:α}{b:β}(h:F v b):∀{l:List α} {m:List β} (i:Nat),Paired F l m->Paired F (l.take i++v :: l.drop i) (m.take i++b :: m.drop i)
 | _,_,0,p =>.cons h p
 | _,_,_+1,.nil =>.cons h .nil
 | _,_,i+1,.cons r t =>.cons r (nI h i t)
structure Rw (H:Hp)(r rr:Addr)(m:Int)(xs:List V)(bs:List Bool):Prop where
 at':H rr=some (.lst xs)
 ne:rr≠r
 it:Paired (λx b=>Itm H m x b/\x ≠ .ref rr/\x ≠ .ref r) xs bs
theorem Rw.sb {H H':Hp}{r rr:Addr}{m:Int}{xs:List V}{bs:List Bool}(h:Rw H r rr m xs bs)(s:SB r H H')(l:Lf r H):Rw H' r rr m xs bs :=
 ⟨s _ _ h.ne h.at',h.ne,Paired.lT h.it λx b q=>⟨q.1.sb s l q.2.2,q.2⟩⟩
theorem Rw.same {H H':Hp}{r rr:Addr}{m:Int}{xs:List V}{bs:List Bool}(h:Rw H r rr m xs bs)(s:aB H H'):Rw H' r rr m xs bs :=
 ⟨s _ _ h.at',h.ne,Paired.lT h.it λx b q=>⟨q.1.same s,q.2⟩⟩
theorem Rw.ins {H:Hp}{r rr:Addr}{m:Int}{xs:List V}{bs:List Bool}(h:Rw H r rr m xs bs){v:V}{b:Bool}(hv:Itm H m v b)(n1:v ≠ .ref rr)(n2:v ≠ .ref r)(i:Nat) :
  Rw (upd H rr (.lst (xs.take i++v :: xs.drop i))) r rr m (xs.take i++v :: xs.drop i) (bs.take i++b :: bs.drop i):=by
 have tp:Tp H (upd H rr (.lst (xs.take i++v :: xs.drop i))):=λa u e=>by
  rw[ai (lS h.at' e (by intro z;cases z)).symm];exact e
 have st:∀{x:V} {b:Bool},Itm H m x b->x ≠ .ref rr->Itm (upd H rr (.lst (xs.take i++v :: xs.drop i))) m x b:=λ{x b} q n=>q.bT tp λa u e q=>by
  rw[ai (λz=>n (by rw[e,z]))];exact q
 exact ⟨ae,h.ne,nI ⟨st hv n1,n1,n2⟩ i (Paired.lT h.it λx b q=>⟨st q.1 q.2.1,q.2⟩)⟩
theorem Rw.up {H:Hp}{r rr:Addr}{m:Int}{xs:List V}{k:Nat}{t:List Bool}(h:Rw H r rr m xs (tI k true++t))(ht:t=[]\/∃t',t=false :: t'):fU H m xs k/\(t=[]->k=xs.length)/\(t≠[]->k<xs.length):=by
 have l:=v8 h.it
 rw[tw,u0] at l
 refine ⟨⟨by omega,λj x a e =>?_,λx e =>?_⟩,λz=>by rw[z] at l;simpa using l.symm,λz=>by have:=vj.mpr z;omega⟩
 ·exact (bM h.it e (by rw[vX (by rw[u0];exact a),xF,if_pos a])).1
 ·rcases ht with z | ⟨t',z⟩
  ·rw[z] at l
   have:=(sQ.mp e).1
   simp at l;omega
  ·exact (bM h.it e (y:=false) (by rw[z,vU (by rw[u0];omega),u0,Nat.sub_self];rfl)).1
theorem qY (xs:List V):(gS xs none (some 199)).length<=199/\∀x∈gS xs none (some 199),x∈xs:=by
 have e:HT.sIx xs.length xs.length (some ((199:Nat):Int))=min 199 xs.length:=HT.nV _ _ _
 unfold gS
 refine ⟨?_,λx hx=>u9 (va hx)⟩
 rw[uH]
 have e':HT.sIx xs.length xs.length (some 199)=min 199 xs.length:=e
 rw[e']
 omega
theorem qZ {α:Type}{xs:List α}{k:Nat}{x:α}(h:x∈(tI k xs).flatten):x∈xs:=by
 obtain ⟨l,hl,hx⟩:=List.mem_flatten.mp h
 rw[(xk.mp hl).2] at hx
 exact hx
theorem nJ {F:V->Bool->Prop}{b:Bool}:∀xs:List V,(∀x∈xs,F x b)->Paired F xs (tI xs.length b)
 | [],_ =>.nil
 | x :: xs,h =>.cons (h x ur) (nJ xs λy hy=>h y (tS _ hy))
theorem o5 (n i:Nat)(b:Bool):(tI n b).take i++b :: (tI n b).drop i=tI (n+1) b:=by
 rw[wW,List.drop_replicate]
 by_cases h:i<=n
 ·rw[wQ h, <- vh,List.replicate_append_replicate]
  congr 1;omega
 ·rw[Nat.min_eq_right (by omega),Nat.sub_eq_zero_of_le (by omega),List.replicate_zero, <- List.replicate_succ' ]
abbrev nK:Sp:=λvs H Q _=>∃(r l:Addr) (m:Int) (ts:List (Addr×Int×Int)),vs=[.ref r,.ref l,.int m]/\Lf r H/\l≠r/\cf H l m ts/\ts.length<=20/\0<=m/\m<=40/\∀(t rr:Addr) (xs:List V) (k:Nat) (bad:V) H',SB r H H'->Lf r H'->H' t=some (.tup [.ref rr,bad])->H' rr=some (.lst xs)->rr≠r->xs.length<=210->fU H' m xs k->((k<xs.length/\bad = .int (k:Nat))\/(k=xs.length/\bad = .non))->(∀x∈xs,x ≠ .ref r)->Q (.ref t) H'
@[irreducible] def kJ:Sp:=nK
theorem eL {vs:List V}{H:Hp}{Q:VK}{E:XK}:kJ vs H Q E↔nK vs H Q E:=by
 delta kJ
 exact wB
section
variable  {P:tj}{w:ud}{K:sI}{mg:Str->Option sJ}{base:Heap}{f T:Addr}{fd:uh}
theorem cM:aP ["left", "ties", "many", "row", "turn", "bad", "places", "at"] ["left", "ties", "many"] (au gI):=⟨rfl,rfl,rfl,by decide +kernel,rfl,by decide +kernel,by decide +kernel⟩
theorem q8 (F:Fun K "_law_row" "_law_row" gI f fd)(B:Blt mg)(cLNext:Cal P w K mg base 1 "_law_next" ["left", "many"] cH)(cLOdd:Cal P w K mg base 2 "_law_odd" ["left", "many"] kH)(C:Cst mg):aZ P w K mg base CX0 3 f fd ["left", "ties", "many"] kJ:=by
 refine F.ok cM (λvs H Q E h =>?_) (λcdv A outer s H vs Q E hr h =>?_)
 ·obtain ⟨_,_,_,_,rfl,_⟩:=eL.mp h
  rfl
 obtain ⟨r,l,m,ts,rfl,lf,nl,T,tl,m0,m1,q⟩:=eL.mp h
 refine eJ ((aX gI).drop 6) (λσ H'=>∃(rr:Addr) (xs:List V) (k:Nat) (bad:V) (c4 c6 c7:Option V),σ=[some (.ref r),some (.ref l),some (.int m),some (.ref rr),c4,some bad,c6,c7]/\SB r H H'/\Lf r H'/\H' rr=some (.lst xs)/\rr≠r/\xs.length<=210/\fU H' m xs k/\((k<xs.length/\bad = .int (k:Nat))\/(k=xs.length/\bad = .non))/\∀x∈xs,x ≠ .ref r) ?hC λtC pC mC =>?gC
 case hC =>
  refine ⟨_,(@av _ _ _ (@bu _ _ _ _ (@bg _ _ _ _ _ (@aa _ _ _ _ _ (pv 3) (@aa _ _ _ _ _ (pv 5) ag rfl) rfl)))),?_⟩
  rintro σ H1 ⟨rr,xs,k,bad,c4,c6,c7,rfl,s1,lf1,e1,n1,l1,U,hb,nx⟩
  refine ⟨_,rfl,_,rfl,(by show 2<=sM;decide),λt ht =>?_⟩
  have g:=af ht (.tup [.ref rr,bad])
  exact q t rr xs k bad _ (s1.trans (aB.sb g)) (lf1.same g) ae (g _ _ e1) n1 l1 (U.same g) hb nx
 case gC =>
 refine eJ ((aX gI).drop 5) (λσ H'=>∃(rr:Addr) (xs:List V) (bs:List Bool) (bad:V) (c4 c6 c7:Option V),σ=[some (.ref r),some (.ref l),some (.int m),some (.ref rr),c4,some bad,c6,c7]/\SB r H H'/\Lf r H'/\Rw H' r rr m xs bs/\xs.length<=210/\(m=0->∀b∈bs,b=false)/\(0<m->∃k,fU H' m xs k/\((k<xs.length/\bad = .int (k:Nat))\/(k=xs.length/\bad = .non)))) ?hB λtB pB mB =>?gB
 case hB =>
  refine ⟨_,(@ak _ _ _ _ _ (@bK _ _ _ _ _ _ _ _ (bq jQ (pv 2) ah (bp _)) (@av _ _ _ (@aG _ _ 5 _ _ _ _ cM.nd rfl (Or.inl rfl) (@b8 _ _ _ _ _ _ _ bE (@aF _ _ _ _ (@aa _ _ _ _ _ cx (@aa _ _ _ _ _ ah ag rfl) rfl)) (cX gk rfl B.b_int jK (@aa _ _ _ _ _ (fe (mZ hr) (pv 3) (@aF _ _ _ _ ag) (bp _)) ag rfl)) (λ_ _=>rfl)) rfl (by first | exact .inl rfl | exact .inr rfl | assumption))) aW)
  pC),?_⟩
  rintro σ H1 ⟨rr,xs,bs,bad,c4,c6,c7,rfl,s1,lf1,R,l1,z0,zp⟩
  have nx:∀x∈xs,x ≠ .ref r:=λx hx=>by
   obtain ⟨j,ej⟩:=uc.mp hx
   have lj:j<bs.length:=by rw[<- v8 R.it];exact (sQ.mp ej).1
   exact (bM R.it ej (tE lj)).2.2
  refine ⟨_,rfl,rfl,_,rfl,?_⟩
  by_cases c:m=0
  ·rw[decide_eq_true (by rw[c])]
   refine aS ⟨(by show 2<=sM;decide),λp hp =>?_⟩
   have g1:=af hp (.lst [.non,.int 0])
   have ep:upd H1 p (.lst [.non,.int 0]) p=some (.lst [.non,.int 0]):=ae
   generalize upd H1 p (.lst [.non,.int 0])=H2 at g1 ep
   refine ⟨_,rfl,(by show 0<=sM;decide),λp2 hp2 =>?_⟩
   have g2:=af hp2 (.lst [])
   have ez:upd H2 p2 (.lst []) p2=some (.lst []):=ae
   have ep:=g2 _ _ ep
   have s12:=g1.trans g2
   generalize upd H2 p2 (.lst [])=H3 at g2 ez ep s12
   have R3:=R.same s12
   refine ⟨rr,p2,xs,rfl,rfl,R3.at',ez,λxz =>?_,λxz =>?_⟩
   ·refine .inr ⟨_,rfl,p,_,0,_,rfl,rfl,SqL.of ep,rfl,mC _ _ ⟨rr,xs,0,.non,_,_,_,rfl,s1.trans (aB.sb s12),lf1.same s12,R3.at',R3.ne,l1,⟨uz _,λj x a=>absurd a (y7 _),λx e=>(by rw[xz] at e;cases e)⟩,.inr ⟨by rw[xz];rfl,rfl⟩,nx⟩⟩
   ·refine .inr ⟨_,rfl,p,_,1,_,rfl,rfl,SqL.of ep,rfl,mC _ _ ⟨rr,xs,0,.int 0,_,_,_,rfl,s1.trans (aB.sb s12),lf1.same s12,R3.at',R3.ne,l1,⟨uz _,λj x a=>absurd a (y7 _),λx e =>?_⟩,.inl ⟨vj.mpr xz,rfl⟩,nx⟩⟩
    have lb:0<bs.length:=by rw[<- v8 R.it];exact vj.mpr xz
    have:=(bM R3.it e (tE lb)).1
    rwa [z0 c _ (xO lb)] at this
  ·rw[decide_eq_false (λz=>c (V.int.inj z))]
   obtain ⟨k,U,hb⟩:=zp (by omega)
   exact aR (mC _ _ ⟨rr,xs,k,bad,_,_,_,rfl,s1,lf1,R.at',R.ne,l1,U,hb,nx⟩)
 case gB =>
 refine eJ ((aX gI).drop 2) (λσ H'=>∃(rr:Addr) (xs:List V) (c4 c5 c6 c7:Option V),σ=[some (.ref r),some (.ref l),some (.int m),some (.ref rr),c4,c5,c6,c7]/\SB r H H'/\Lf r H'/\H rr=none/\Rw H' r rr m xs (tI xs.length (decide (0<m)))/\xs.length<=199) ?hA λtA pA mA =>?gA
 case hA =>
  refine ⟨_,(@ak _ _ _ _ _ (@cP _ _ _ _ _ _ _ _ vw rfl (d7 rfl B.b_range (@aa _ _ _ _ _ (aD cLNext hr (by decide) rfl (@aa _ _ _ _ _ (pv 0) (@aa _ _ _ _ _ ah ag rfl) rfl)) ag rfl)) (bb (i:=4) cM.nd rfl (Or.inl rfl))
   (@av _ _ _ (cV (jW vB xC xD gu (pv 3) (@aa _ _ _ _ _ (aD cLNext hr (by decide) rfl (@aa _ _ _ _ _ (pv 0) (@aa _ _ _ _ _ (@aM _ _ _ _ _ _ _ _ bQ (aq aT rfl B.b_len cG (@aa _ _ _ _ _ (pv 3) ag rfl)) ah) ag rfl) rfl)) (@aa _ _ _ _ _ (@bg _ _ _ _ _ (@aa _ _ _ _ _ ah (@aa _ _ _ _ _ ah ag rfl) rfl)) ag rfl) rfl)))) (λ_=>rfl))
  (@ak _ _ _ _ _ (@aG _ _ 5 _ _ _ _ cM.nd rfl (Or.inl rfl) cx rfl (by first | exact .inl rfl | exact .inr rfl | assumption))
  (@ak _ _ _ _ _ (@bK _ _ _ _ _ _ _ _ (bq jQ (aD cLNext hr (by decide) rfl (@aa _ _ _ _ _ (pv 0) (@aa _ _ _ _ _ ah ag rfl) rfl)) ah (bp _)) (@ak _ _ _ _ _ (@aG _ _ 6 _ _ _ _ cM.nd rfl (Or.inl rfl) (fA jV (@aF _ _ _ _ (@aa _ _ _ _ _ (aD cLNext hr (by decide) rfl (@aa _ _ _ _ _ (pv 0) (@aa _ _ _ _ _ (@aM _ _ _ _ _ _ _ _ bQ (aq aT rfl B.b_len cG (@aa _ _ _ _ _ (pv 3) ag rfl)) ah) ag rfl) rfl)) (@aa _ _ _ _ _ (aD cLNext hr (by decide) rfl (@aa _ _ _ _ _ (pv 0) (@aa _ _ _ _ _ (@aM _ _ _ _ _ _ _ _ bQ (aq aT rfl B.b_len cG (@aa _ _ _ _ _ (pv 3) ag rfl)) ah) ag rfl) rfl)) ag rfl) rfl)) gQ (gR (@aM _ _ _ _ _ _ _ _ bQ ah (aD cLNext hr (by decide) rfl (@aa _ _ _ _ _ (pv 0) (@aa _ _ _ _ _ ah ag rfl) rfl))))) rfl (by first | exact .inl rfl | exact .inr rfl | assumption))
   (@ak _ _ _ _ _ (@cP _ _ _ _ _ _ _ _ vw rfl (@dG _ _ _ _ (ic rfl B.b_sorted gJ (pv 6))) (bb (i:=7) cM.nd rfl (Or.inl rfl))
    (@av _ _ _ (cV (jW vB xC xD gu (pv 3) (@aa _ _ _ _ _ (pv 7) (@aa _ _ _ _ _ (aD cLOdd hr (by decide) rfl (@aa _ _ _ _ _ (pv 0) (@aa _ _ _ _ _ (pv 2) ag rfl) rfl)) ag rfl) rfl)))) (λ_=>rfl))
   (@av _ _ _ (@aG _ _ 5 _ _ _ _ cM.nd rfl (Or.inl rfl) (aq (lF rfl) rfl B.b_min iq (@aa _ _ _ _ _ (pv 6) ag rfl)) rfl (by first | exact .inl rfl | exact .inr rfl | assumption))))) aW)
  pB))),?_⟩
  rintro σ H1 ⟨rr,xs,c4,c5,c6,c7,rfl,s1,lf1,hrr,R,l1⟩
  have wr:∀{G:Hp} {o:HO},SB r H G->SB r H (upd G rr o):=λ{G o} s b u nb e=>by rw[ai (aj e hrr)];exact s b u nb e
  have lw:∀{G:Hp} {o:HO},Lf r G->Lf r (upd G rr o):=λ{G o} ⟨n,e⟩=>⟨n,by rw[ai (vf R.ne)];exact e⟩
  refine ⟨_,rfl,bH lf1 (by decide) (by decide) λn H2 n0 n1 sb2 lf2=>⟨n,rfl,by omega,by omega,d8 (λk σ H'=>(∃lv,σ=[some (.ref r),some (.ref l),some (.int m),some (.ref rr),lv,c5,c6,c7])/\SB r H H'/\Lf r H'/\∃ys,Rw H' r rr m ys (tI ys.length (decide (0<m)))/\ys.length<=199+k) ⟨⟨c4,rfl⟩,s1.trans sb2,lf2,xs,R.sb sb2 lf1,l1⟩ ?_ ?_⟩⟩
  ·rintro k σ H3 hk ⟨⟨lv,rfl⟩,s3,lf3,ys,R3,l3⟩
   have kz:k<3:=by omega
   refine ⟨_,rfl,.inl ⟨rfl,_,SqL.of R3.at'⟩,_,rfl,_,rfl,rr,_,rfl,.inl (SqL.of R3.at'),_,_,rfl,rfl,bH lf3 (by omega) (by omega) λd H4 d0 d1 sb4 lf4 =>?_⟩
   refine ⟨(by show 2<=sM;decide),λp hp =>?_⟩
   have g:=af hp (.tup [.int 0,.int 0])
   have ep:upd H4 p (.tup [.int 0,.int 0]) p=some (.tup [.int 0,.int 0]):=ae
   have R4:=(R3.sb sb4 lf3)
   have np:p≠rr:=vf (aj R4.at' hp)
   have nq:p≠r:=lf4.ne hp
   have R5:=R4.same g
   have lf5:=lf4.same g
   have s5:=s3.trans (sb4.trans (aB.sb g))
   generalize upd H4 p (.tup [.int 0,.int 0])=H5 at g ep R5 lf5 s5
   have iv:Itm H5 m (.ref p) (decide (0<m)) :=.pr (.inr ep) (.int _) (.int _) (by
    show ((decide ((0:Int)<=0) && decide (0<m)) && (decide ((0:Int)<=0) && decide (0<m)))=_
    rw[Bool.and_self];rfl)
   have R6:=R5.ins iv (λz=>np (V.ref.inj z)) (λz=>nq (V.ref.inj z)) d.toNat
   rw[o5] at R6
   refine ⟨rr,ys,d,.ref p,rfl,rfl,R5.at',d0,by omega,cZ (by omega),⟨_,rfl⟩,wr s5,lw lf5,ys.take d.toNat++V.ref p :: ys.drop d.toNat,?_,?_⟩
   ·have e:(ys.take d.toNat++V.ref p :: ys.drop d.toNat).length=ys.length+1:=by
     rw[tw,tY,uH,uL];omega
    rw[e];exact R6
   ·rw[tw,tY,uH,uL];omega
  ·rintro σ H3 ⟨⟨lv,rfl⟩,s3,lf3,ys,R3,l3⟩
   have l3':ys.length<=201:=by omega
   refine ⟨_,rfl,bH lf3 (by decide) (by decide) λd H4 d0 d1 sb4 lf4=>⟨rfl,_,rfl,?_⟩⟩
   have R4:=R3.sb sb4 lf3
   have s4:=s3.trans sb4
   by_cases c:d=0
   rotate_left
   ·rw[decide_eq_false (λz=>c (V.int.inj z))]
    refine aR (mB _ _ ⟨rr,ys,_,.non,_,_,_,rfl,s4,lf4,R4,by omega,λz b hb =>?_,λz=>⟨ys.length,?_,.inr ⟨rfl,rfl⟩⟩⟩)
    ·have:=(xk.mp hb).2
     rw[this,z];rfl
    ·rw[decide_eq_true z] at R4
     exact (Rw.up (t:=[]) (by rw[uA];exact R4) (.inl rfl)).1
   rw[decide_eq_true (by rw[c])]
   refine aS ?_
   refine ⟨_,rfl,_,rfl,rr,_,rfl,.inl (SqL.of R4.at'),_,_,rfl,rfl,bH lf4 (by omega) (by omega) λa1 G1 a10 a11 sb5 lf5 =>?_⟩
   have R5:=R4.sb sb5 lf4
   have s5:=s4.trans sb5
   refine ⟨_,rfl,_,rfl,rr,_,rfl,.inl (SqL.of R5.at'),_,_,rfl,rfl,bH lf5 (by omega) (by omega) λa2 G2 a20 a21 sb6 lf6 =>?_⟩
   have R6:=R5.sb sb6 lf5
   have s6:=s5.trans sb6
   refine ⟨(by show 2<=sM;decide),λp1 hp1 =>?_⟩
   have g7:=af hp1 (.lst [.int a1,.int a2])
   have e7:upd G2 p1 (.lst [.int a1,.int a2]) p1=some (.lst [.int a1,.int a2]):=ae
   have R7:=R6.same g7
   have lf7:=lf6.same g7
   have s7:=s6.trans (aB.sb g7)
   have np1:p1≠r:=lf6.ne hp1
   generalize upd G2 p1 (.lst [.int a1,.int a2])=G3 at g7 e7 R7 lf7 s7
   refine ⟨_,rfl,bH lf7 (by decide) (by decide) λd3 G4 d30 d31 sb8 lf8 =>?_⟩
   have R8:=R7.sb sb8 lf7
   have s8:=s7.trans sb8
   have e8:=sb8 _ _ np1 e7
   refine ⟨_,_,rfl,rfl,_,rfl,p1,_,rfl,SqL.of e8,λp2 hp2 =>?_⟩
   obtain ⟨ns,en,nn,nb⟩:∃ns:List Int,gS [.int a1,.int a2] none (some (1+d3))=ns.map V.int/\ns≠[]/\∀x∈ns,0<=x/\x<=ys.length:=by
    have:d3=0\/d3=1:=by omega
    rcases this with rfl | rfl
    ·exact ⟨[a1],rfl,by simp,λx hx=>by rw[yB.mp hx];omega⟩
    ·refine ⟨[a1,a2],rfl,by simp,λx hx =>?_⟩
     rcases tG.mp hx with rfl | hx
     ·omega
     ·rw[yB.mp hx];omega
   rw[en]
   have ln:ns.length<=2:=by
    have:=congrArg List.length en
    rw[t7] at this
    rw[<- this]
    exact eN _ _ _
   have g9:=af hp2 (.lst (ns.map V.int))
   have e9:upd G4 p2 (.lst (ns.map V.int)) p2=some (.lst (ns.map V.int)):=ae
   have R9:=R8.same g9
   have lf9:=lf8.same g9
   have s9:=s8.trans (aB.sb g9)
   have np2:p2≠r:=lf8.ne hp2
   have nq2:p2≠rr:=vf (aj R8.at' hp2)
   generalize upd G4 p2 (.lst (ns.map V.int))=G5 at g9 e9 R9 lf9 s9
   refine ⟨_,rfl,p2,ns,rfl,.inl (SqL.of e9),λl2 out hl2 pm pw =>?_⟩
   have ga:=af hl2 (.lst (out.map V.int))
   have ea:upd G5 l2 (.lst (out.map V.int)) l2=some (.lst (out.map V.int)):=ae
   have Ra:=R9.same ga
   have lfa:=lf9.same ga
   have sa:=s9.trans (aB.sb ga)
   have e9:=ga _ _ e9
   have nl2:l2≠r:=lf9.ne hl2
   have nlr:l2≠rr:=vf (aj R9.at' hl2)
   generalize upd G5 l2 (.lst (out.map V.int))=G6 at ga ea Ra lfa sa e9
   have lo:out.length=ns.length:=pm.length_eq
   have ob:∀{i:Nat} {x:Int},out[i]? = some x->0<=x/\x<=ys.length:=λ{i x} e=>nb x (pm.mem_iff.mp (tD e))
   refine ⟨l2,rfl,⟨_,SqL.of ea⟩,bz (xs:=out.map V.int) (λi σ H'=>(∃c7',σ=[some (.ref r),some (.ref l),some (.int m),some (.ref rr),lv,some .non,some (.ref p2),c7'])/\SB r H H'/\Lf r H'/\H' l2=some (.lst (out.map V.int))/\H' p2=some (.lst (ns.map V.int))/\∃zs bs,Rw H' r rr m zs bs/\zs.length=ys.length+i/\(m=0->∀b∈bs,b=false)/\(0<m->(i=0/\bs=tI ys.length true)\/∃(j p:Nat) (t:List Bool),i=j+1/\out[j]? = some (p:Int)/\bs=tI p true++false :: t)) ⟨⟨_,rfl⟩,sa,lfa,ea,e9,ys,_,Ra,rfl,λz b hb=>(by rw[(xk.mp hb).2,z];rfl),λz =>.inl ⟨rfl,by rw[decide_eq_true z]⟩⟩ (λi σ H' _ z=>SqL.of z.2.2.2.1) ?_ ?_⟩
   ·rintro i x σ K1 hx ⟨⟨c7',rfl⟩,t1,lt1,et1,eu1,zs,bs,RR,lz,z0,zp⟩
    obtain ⟨a,ea',rfl⟩:∃a,out[i]? = some a/\x=V.int a:=by
     rw[vS] at hx
     cases q:out[i]? with
     | none=>rw[q] at hx;cases hx
     | some a=>rw[q] at hx;exact ⟨a,rfl,(tV hx).symm⟩
    obtain ⟨a0,a1'⟩:=ob ea'
    have li:i<2:=by have:=(sQ.mp ea').1;omega
    refine ⟨_,rfl,.inl ⟨rfl,_,SqL.of RR.at'⟩,_,rfl,_,rfl,_,rfl,eI.mpr ⟨r,m,rfl,lt1,m0,λv K2 sb lt2 iv nv =>?_⟩⟩
    have R2:=RR.sb sb lt1
    have nv1:v ≠ .ref rr:=λz=>by have:=nv rr z;rw[RR.at'] at this;cases this
    have nv2:v ≠ .ref r:=λz=>by
     obtain ⟨_,q⟩:=lt1
     have:=nv r z;rw[q] at this;cases this
    have R3:=R2.ins iv nv1 nv2 a.toNat
    have eE:(zs.take a.toNat++v :: zs.drop a.toNat).length=ys.length+(i+1):=by
     rw[tw,tY,uH,uL];omega
    refine ⟨rr,zs,a,v,rfl,rfl,R2.at',a0,by omega,cZ (by omega),⟨_,rfl⟩,wr (t1.trans sb),lw lt2,?_,?_,_,_,R3,eE,λz b hb =>?_,λz =>.inr ⟨i,a.toNat,bs.drop a.toNat,rfl,?_,?_⟩⟩
    ·rw[ai nlr];exact sb _ _ nl2 et1
    ·rw[ai nq2];exact sb _ _ np2 eu1
    ·rcases tO.mp hb with hb | hb
     ·exact z0 z b (va hb)
     ·rcases tG.mp hb with rfl | hb
      ·rfl
      ·exact z0 z b (u9 hb)
    ·rw[ea'];congr 1;omega
    ·congr 1
     rcases zp z with ⟨_,e⟩ | ⟨j,p,t,ij,ej,e⟩
     ·rw[e,wW,wQ (by omega)]
     ·have lj:j<out.length:=(sQ.mp ej).1
      have li':i<out.length:=(sQ.mp ea').1
      have le:=vq.mp pw j i lj li' (by omega)
      rw[tE lj] at ej
      rw[tE li'] at ea'
      rw[tV ej,tV ea'] at le
      rw[e,vE (by rw[u0];omega),wW,wQ (by omega)]
   ·rintro σ K1 ⟨⟨c7',rfl⟩,t1,lt1,et1,eu1,zs,bs,RR,lz,z0,zp⟩
    rw[t7] at lz zp
    refine ⟨_,rfl,p2,ns,rfl,SqL.of eu1,nn,λM hM lM=>mB _ _ ⟨rr,zs,bs,_,_,_,_,rfl,t1,lt1,RR,by omega,z0,λz =>?_⟩⟩
    rcases zp z with ⟨e,_⟩ | ⟨j,p,t,ij,ej,e⟩
    ·have:=vj.mpr nn;omega
    obtain ⟨U,_,lk⟩:=Rw.up (t:=false :: t) (by rw[<- e];exact RR) (.inr ⟨t,rfl⟩)
    refine ⟨p,U,.inl ⟨lk (by simp),?_⟩⟩
    congr 1
    have pin:(p:Int)∈ns:=pm.mem_iff.mp (tD ej)
    have h1:=lM _ pin
    obtain ⟨k,hk⟩:=uc.mp (pm.mem_iff.mpr hM)
    have lk':k<out.length:=(sQ.mp hk).1
    have lj:j<out.length:=(sQ.mp ej).1
    rw[tE lj] at ej
    rw[tE lk'] at hk
    have ej:=tV ej
    have hk:=tV hk
    rcases Nat.lt_or_ge k j with c | c
    ·have le:=vq.mp pw k j lk' lj c
     rw[ej,hk] at le
     omega
    ·have:k=j:=by omega
     subst this
     omega
 case gA =>
 refine ⟨_,(@ak _ _ _ _ _ (@aG _ _ 3 _ _ _ _ cM.nd rfl (Or.inl rfl) (cX gW rfl B.b_list ip (@aa _ _ _ _ _ (pv 1) ag rfl)) rfl (by first | exact .inl rfl | exact .inr rfl | assumption))
  (@ak _ _ _ _ _ (@bK _ _ _ _ _ _ _ _ (PW.pt (dZ (bq (mZ hr) (pv 1) (@aF _ _ _ _ ag) (bp _)) (dF (bq jQ (aD cLNext hr (by decide) rfl (@aa _ _ _ _ _ (pv 0) (@aa _ _ _ _ _ ah ag rfl) rfl)) ah (bp _))))) (@av _ _ _ (@aG _ _ 3 _ _ _ _ cM.nd rfl (Or.inl rfl) (fA jV (@aM _ _ _ _ _ _ _ _ qj (pv 1) ah) gQ (gR ah)) rfl (by first | exact .inl rfl | exact .inr rfl | assumption))) aW)
  pA)),?_⟩
 have hl:=T.at'
 refine ⟨_,rfl,l,_,rfl,.inl (SqL.of hl),λrr hrr =>?_⟩
 have g1:=af hrr (.lst (ts.map λt =>.ref t.1))
 have e1:upd H rr (.lst (ts.map λt =>.ref t.1)) rr=some (.lst (ts.map λt =>.ref t.1)):=ae
 have T1:=T.same g1
 have lf1:=lf.same g1
 have n1:rr≠r:=lf.ne hrr
 generalize upd H rr (.lst (ts.map λt =>.ref t.1))=H1 at g1 e1 T1 lf1
 have good:∀{G:Hp} {q:Addr} {ys:List V},cf G l m ts->G q=some (.lst ys)->q≠r->Lf r G->(∀x∈ys,x∈ts.map λt=>V.ref t.1)->Rw G r q m ys (tI ys.length (decide (0<m))):=λ{G q ys} TG eq nq lg sub=>by
  refine ⟨eq,nq,nJ ys λx hx =>?_⟩
  obtain ⟨t,ht,rfl⟩:=xj.mp (sub x hx)
  have et:=TG.tup t ht
  obtain ⟨b1,b2,b3,b4⟩:=TG.bnd t ht
  refine ⟨?_,λz =>?_,λz =>?_⟩
  ·refine .pr (.inr et) (.int _) (.int _) ?_
   show ((decide (0<=t.2.1) && decide (t.2.1<m)) && (decide (0<=t.2.2) && decide (t.2.2<m)))=_
   rw[decide_eq_true b1,decide_eq_true b2,decide_eq_true b3,decide_eq_true b4,decide_eq_true (show 0<m by omega)];rfl
  ·rw[V.ref.inj z,eq] at et;cases et
  ·exact lg.neT et (V.ref.inj z)
 refine ⟨_,rfl,(by show 0<=sM;decide),λz hz =>?_⟩
 have g2:=af hz (.lst [])
 have ez:upd H1 z (.lst []) z=some (.lst []):=ae
 have T2:=T1.same g2
 have lf2:=lf1.same g2
 have e2:=g2 _ _ e1
 have s2:=g1.trans g2
 generalize upd H1 z (.lst [])=H2 at g2 ez T2 lf2 e2 s2
 have lm:(ts.map λt=>V.ref t.1).length=ts.length:=t7 _
 refine ⟨l,z,_,rfl,rfl,T2.at',ez,λe=>⟨_,rfl,aR (mA _ _ ⟨rr,_,_,_,_,_,rfl,aB.sb s2,lf2,hrr,good T2 e2 n1 lf2 λx hx=>hx,by omega⟩)⟩,λe=>⟨_,rfl,aS ?_⟩⟩
 refine ⟨_,rfl,bH lf2 (by decide) (by decide) λd H3 d0 d1 sb3 lf3=>⟨rfl,_,rfl,?_⟩⟩
 have T3:=T2.sb sb3 lf2 nl
 have e3:=sb3 _ _ n1 e2
 have s3:=(aB.sb (r:=r) s2).trans sb3
 by_cases c:d=0
 rotate_left
 ·rw[decide_eq_false (λz=>c (V.int.inj z))]
  exact aR (mA _ _ ⟨rr,_,_,_,_,_,rfl,s3,lf3,hrr,good T3 e3 n1 lf3 λx hx=>hx,by omega⟩)
 rw[decide_eq_true (by rw[c])]
 refine aS ⟨_,rfl,l,200,_,rfl,rfl,T3.at',by decide,by decide,?_,λp hp =>?_⟩
 ·rw[lm]
  exact tM (Nat.mul_le_mul_right _ tl) (by decide)
 have g4:=af hp (.lst (tI (200:Int).toNat (ts.map λt=>V.ref t.1)).flatten)
 have e4:upd H3 p (.lst (tI (200:Int).toNat (ts.map λt=>V.ref t.1)).flatten) p=some (.lst (tI (200:Int).toNat (ts.map λt=>V.ref t.1)).flatten):=ae
 have T4:=T3.same g4
 have lf4:=lf3.same g4
 have s4:=s3.trans (aB.sb g4)
 generalize upd H3 p (.lst (tI (200:Int).toNat (ts.map λt=>V.ref t.1)).flatten)=H4 at g4 e4 T4 lf4 s4
 refine ⟨_,rfl,p,_,rfl,SqL.of e4,λp2 hp2 =>?_⟩
 obtain ⟨c1,c2⟩:=qY (tI (200:Int).toNat (ts.map λt=>V.ref t.1)).flatten
 have g5:=af hp2 (.lst (gS (tI (200:Int).toNat (ts.map λt=>V.ref t.1)).flatten none (some 199)))
 exact mA _ _ ⟨p2,_,_,_,_,_,rfl,s4.trans (aB.sb g5),lf4.same g5,fW s4 lf4 hp2,good (T4.same g5) ae (lf4.ne hp2) (lf4.same g5) λx hx=>qZ (c2 x hx),c1⟩
end
open PySem L2
def jg (K:sI):Sp:=λvs H Q _=>∃(a:Addr) (ns:List Int),vs=[.ref a]/\SqL K H a (ns.map V.int)/\ns.length<=63/\∀H',Q (.bl true) H'
theorem gK {K:sI}{vs:List V}{H:Hp}{Q:VK}{E:XK}:jg K vs H Q E↔∃(a:Addr) (ns:List Int),vs=[.ref a]/\SqL K H a (ns.map V.int)/\ns.length<=63/\∀H',Q (.bl true) H':=wB
theorem nM {X:Cx}{k:Nat}(hr:bD k X.A):OpR X (uW .NotEq) (λx y H Q=>∃a b xs ys,x = .ref a/\y = .ref b/\SqL X.K H a xs/\SqL X.K H b ys/\Paired (EqS X.K H 20) xs ys/\Q (.bl false) H):=by
 intro pins s σ H x y v u Q I rx ry h
 obtain ⟨a,b,xs,ys,rfl,rfl,h1,h2,p,q⟩:=h
 cases (show v=tH a from rx)
 cases (show u=tH b from ry)
 obtain ⟨us,r1,p1,_⟩:=I.list h1
 obtain ⟨vs,r2,p2,_⟩:=I.list h2
 have un:=hr.un
 have R:=yz (A:=X.A) (e:=λ_=>true) p1.isList p2.isList (by rw[sO,sO, <- r1.length, <- r2.length,v8 p]) (by omega) (eC p r1 r2 λx y u v z1 z2 z3=>mH I 20 _ x y u v (by show X.A.units+1+_<cLine;omega) z1 z2 z3)
 rw[all_true] at R
 exact R _ _ _ _ ⟨.bl false,H,I,rfl,q⟩
theorem kK {X:Cx}{k:Nat}(hr:bD k X.A):OpR X (uW .NotEq) (λx y H Q=>(x = .non/\y = .non/\Q (.bl false) H)\/∃a b xs ys,x = .ref a/\y = .ref b/\SqL X.K H a xs/\SqL X.K H b ys/\Paired (EqS X.K H 20) xs ys/\Q (.bl false) H):=by
 intro pins s σ H x y v u Q I rx ry h
 rcases h with ⟨rfl,rfl,q⟩ | h
 ·exact lZ pins s σ H _ _ v u Q I rx ry ⟨rfl,q⟩
 ·exact nM hr pins s σ H x y v u Q I rx ry h
theorem cutS:∀n:Nat,n<64->(Builtin.Str.strSliceIndices none (some (n:Int)) 1 ("ab" : Str).length).length<=2:=by decide +kernel
theorem bt {K:sI}{H:Hp}{n:Nat}{i:Int}:EqS K H n (.int i) (.int i):=by cases n <;> exact .inl ⟨i,rfl,rfl⟩
theorem bo {K:sI}{H:Hp}{n:Nat}{i:Str}:EqS K H n (.str i) (.str i):=by cases n <;> exact .inr (.inl ⟨i,rfl,rfl⟩)
section
variable  {P:tj}{w:ud}{K:sI}{mg:Str->Option sJ}{base:Heap}{f T:Addr}{fd:uh}
theorem cw:aP ["script", "cell", "left", "good", "row", "bad", "many", "wrong", "due", "found", "odd"] ["script"] (au lK):=⟨rfl,rfl,rfl,by decide +kernel,rfl,by decide +kernel,by decide +kernel⟩
theorem sF (F:Fun K "law" "law" lK f fd)(B:Blt mg)(cLErrors:Cal P w K mg base 3 "_law_errors" ["number", "words"] iF)(cLDeal:Cal P w K mg base 2 "_law_deal" ["cell"] nc)(cLRow:Cal P w K mg base 3 "_law_row" ["left", "ties", "many"] kJ)(cLMany:Cal P w K mg base 2 "_law_many" ["left", "many"] iG)(cLKind:Cal P w K mg base 5 "_law_kind" ["many", "row"] iD)(cLNext:Cal P w K mg base 1 "_law_next" ["left", "many"] cH)(cLTies:Cal P w K mg base 2 "_law_ties" ["left", "many", "most"] ir)(C:Cst mg):aZ P w K mg base CX0 6 f fd ["script"] (jg K):=by
 refine F.ok cw (λvs H Q E h =>?_) (λcdv A outer s H vs Q E hr h =>?_)
 ·obtain ⟨_,_,rfl,_⟩:=gK.mp h
  rfl
 obtain ⟨a,ns,rfl,hS,h63,q⟩:=gK.mp h
 refine ⟨_,(@ak _ _ _ _ _ (@bK _ _ _ _ _ _ _ _ (bZ (bG (aD cLErrors hr (by decide) rfl (@aa _ _ _ _ _ (@aM _ _ _ _ _ _ _ _ fx (aq aT rfl B.b_len cG (@aa _ _ _ _ _ (pv 0) ag rfl)) ah) (@aa _ _ _ _ _ (fA oT bC gQ (gR (aq aT rfl B.b_len cG (@aa _ _ _ _ _ (pv 0) ag rfl)))) ag rfl) rfl)))) cW aW)
  (@ak _ _ _ _ _ (@cP _ _ _ _ _ _ _ _ vw rfl (@dG _ _ _ _ (@aM _ _ _ _ _ _ _ _ dH (@aF _ _ _ _ (@aa _ _ _ _ _ ah ag rfl)) (pv 0))) (bb (i:=1) cw.nd rfl (Or.inl rfl))
   (@ak _ _ _ _ _ (@aG _ _ 2 _ _ _ _ cw.nd rfl (Or.inl rfl) (aD cLDeal hr (by decide) rfl (@aa _ _ _ _ _ (pv 1) ag rfl)) rfl (by first | exact .inl rfl | exact .inr rfl | assumption))
   (@ak _ _ _ _ _ (@aG _ _ 3 _ _ _ _ cw.nd rfl (Or.inl rfl) (@b8 _ _ _ _ _ _ _ bE (@aF _ _ _ _ (@aa _ _ _ _ _ (aD cLNext hr (by decide) rfl (@aa _ _ _ _ _ (pv 2) (@aa _ _ _ _ _ ah ag rfl) rfl)) (@aa _ _ _ _ _ (aD cLNext hr (by decide) rfl (@aa _ _ _ _ _ (pv 2) (@aa _ _ _ _ _ ah ag rfl) rfl)) ag rfl) rfl)) (aD cLNext hr (by decide) rfl (@aa _ _ _ _ _ (pv 2) (@aa _ _ _ _ _ ah ag rfl) rfl)) (λ_ _=>rfl)) rfl (by first | exact .inl rfl | exact .inr rfl | assumption))
   (@ak _ _ _ _ _ (@jj _ _ _ _ _ _ (aD cLRow hr (by decide) rfl (@aa _ _ _ _ _ (pv 2) (@aa _ _ _ _ _ (aD cLTies hr (by decide) rfl (@aa _ _ _ _ _ (pv 2) (@aa _ _ _ _ _ (pv 3) (@aa _ _ _ _ _ ah ag rfl) rfl) rfl)) (@aa _ _ _ _ _ (pv 3) ag rfl) rfl) rfl)) (gO rfl (bO (bb (i:=4) cw.nd rfl (Or.inl rfl)) (bO (bb (i:=5) cw.nd rfl (Or.inl rfl)) fc))) rfl rfl rfl)
   (@ak _ _ _ _ _ (@jj _ _ _ _ _ _ (aD cLMany hr (by decide) rfl (@aa _ _ _ _ _ (pv 2) (@aa _ _ _ _ _ (pv 3) ag rfl) rfl)) (gO rfl (bO (bb (i:=6) cw.nd rfl (Or.inl rfl)) (bO (bb (i:=7) cw.nd rfl (Or.inl rfl)) fc))) rfl rfl rfl)
   (@ak _ _ _ _ _ (@aG _ _ 8 _ _ _ _ cw.nd rfl (Or.inl rfl) (@b8 _ _ _ _ _ _ _ bE (@aF _ _ _ _ (@aa _ _ _ _ _ cx (@aa _ _ _ _ _ (@aF _ _ _ _ (@aa _ _ _ _ _ bC ag rfl)) ag rfl) rfl)) (cX gk rfl B.b_int jK (@aa _ _ _ _ _ (fe jR (aq aT rfl B.b_len cG (@aa _ _ _ _ _ (pv 4) ag rfl)) ah (bp _)) ag rfl)) (λ_ _=>rfl)) rfl (by first | exact .inl rfl | exact .inr rfl | assumption))
   (@ak _ _ _ _ _ (@bK _ _ _ _ _ _ _ _ (bq jS (pv 5) cx (bp _)) (@av _ _ _ (@aG _ _ 8 _ _ _ _ cw.nd rfl (Or.inl rfl) (@aF _ _ _ _ (@aa _ _ _ _ _ bC (@aa _ _ _ _ _ (pv 5) ag rfl) rfl)) rfl (by first | exact .inl rfl | exact .inr rfl | assumption))) aW)
   (@ak _ _ _ _ _ (@bK _ _ _ _ _ _ _ _ (bG (pv 7)) (@av _ _ _ (@aG _ _ 8 _ _ _ _ cw.nd rfl (Or.inl rfl) (@aF _ _ _ _ (@aa _ _ _ _ _ bC (@aa _ _ _ _ _ (gj d9 ah) ag rfl) rfl)) rfl (by first | exact .inl rfl | exact .inr rfl | assumption))) aW)
   (@ak _ _ _ _ _ (@aG _ _ 9 _ _ _ _ cw.nd rfl (Or.inl rfl) (aD cLKind hr (by decide) rfl (@aa _ _ _ _ _ (pv 6) (@aa _ _ _ _ _ (pv 4) ag rfl) rfl)) rfl (by first | exact .inl rfl | exact .inr rfl | assumption))
   (@ak _ _ _ _ _ (@bK _ _ _ _ _ _ _ _ (PW.pt (gh (bq (kK hr) (pv 9) (pv 8) (bp _)) (gN (PW.pt (dZ (bq jS (pv 9) cx (bp _)) (dZ (bq jQ (aq aT rfl B.b_len cG (@aa _ _ _ _ _ (pv 9) ag rfl)) ah (bp _)) (dF (bG (aq cQ rfl B.b_isinstance ao (@aa _ _ _ _ _ (@b8 _ _ _ _ _ _ _ bE (pv 9) ah (λ_ _=>rfl)) (@aa _ _ _ _ _ (bV (v :=.ty "bool") rfl B.b_bool kq rfl) ag rfl) rfl)))))))))) cW aW)
   (@av _ _ _ (@cP _ _ _ _ _ _ _ _ vw rfl (@dG _ _ _ _ (@aF _ _ _ _ (@aa _ _ _ _ _ cx (@aa _ _ _ _ _ ah (@aa _ _ _ _ _ bC (@aa _ _ _ _ _ mE (@aa _ _ _ _ _ eM ag rfl) rfl) rfl) rfl) rfl))) (bb (i:=10) cw.nd rfl (Or.inl rfl))
    (@av _ _ _ (@bK _ _ _ _ _ _ _ _ (bq (kK hr) (aD cLKind hr (by decide) rfl (@aa _ _ _ _ _ (pv 3) (@aa _ _ _ _ _ (pv 10) ag rfl) rfl)) (@aF _ _ _ _ (@aa _ _ _ _ _ bC (@aa _ _ _ _ _ (gj d9 ah) ag rfl) rfl)) (bp _)) cW aW)) (λ_=>rfl)))))))))))) (λ_=>rfl))
  (@av _ _ _ (@bu _ _ _ _ eM)))),?_⟩
 have lk:(ns.map V.int).length=ns.length:=t7 _
 refine ⟨_,rfl,a,_,rfl,.inl hS,_,_,rfl,rfl,_,rfl,a,_,rfl,.inl hS,_,rfl,_,rfl,?_,λy =>?_⟩
 ·rw[lk]
  exact tM (cutS _ (by omega)) (by decide)
 refine dC.mpr ⟨_,y,rfl,by rw[lk];omega,by rw[lk];omega,λHH sHH=>⟨_,rfl,aR ?_⟩⟩
 refine ⟨(by show 1<=sM;decide),λp0 hp0=>⟨_,rfl,p0,a,[.int 0],ns.map V.int,rfl,rfl,SqL.of ae,(af hp0 _).seq (sHH.seq hS),?_,λS hS0 =>?_⟩⟩
 ·rw[t7]
  exact small (by show 1+ns.length<=1000;omega)
 have kS:upd (upd HH p0 (.lst [.int 0])) S (.lst ([.int 0]++ns.map V.int)) S=some (.lst ([.int 0]++ns.map V.int)):=ae
 generalize upd (upd HH p0 (.lst [.int 0])) S (.lst ([.int 0]++ns.map V.int))=H0 at kS
 refine ⟨S,rfl,⟨_,SqL.of kS⟩,bz (xs:=[.int 0]++ns.map V.int) (λi σ H'=>(∃c1 c2 c3 c4 c5 c6 c7 c8 c9 c10,σ=[some (.ref a),c1,c2,c3,c4,c5,c6,c7,c8,c9,c10])/\H' S=some (.lst ([.int 0]++ns.map V.int))) ⟨⟨_,_,_,_,_,_,_,_,_,_,rfl⟩,kS⟩ (λi σ H' _ h=>SqL.of h.2) ?_ (λσ H' _=>q _)⟩
 rintro i x σ H1 hx ⟨⟨c1,c2,c3,c4,c5,c6,c7,c8,c9,c10,rfl⟩,kS⟩
 obtain ⟨cl,rfl⟩:∃cl:Int,x = .int cl:=by
  have m:=tD hx
  rcases tO.mp m with z | z
  ·exact ⟨0,by simpa using z⟩
  ·obtain ⟨c,_,e⟩:=xj.mp z
   exact ⟨c,e.symm⟩
 refine ⟨_,rfl,cl,rfl,λn r n0 hr0 =>?_⟩
 have g1:=af hr0 (.lst [.int n])
 have lf:Lf r (upd H1 r (.lst [.int n])):=⟨n,ae⟩
 have nS:S≠r:=aj kS hr0
 have kS:=g1 _ _ kS
 generalize upd H1 r (.lst [.int n])=H2 at lf kS
 clear g1
 refine ⟨_,rfl,bH lf (by decide) (by decide) λd1 G1 d10 d11 sb1 lf1 =>?_⟩
 refine ⟨_,rfl,bH lf1 (by decide) (by decide) λd2 G2 d20 d21 sb2 lf2 =>?_⟩
 have kS:=sb2 _ _ nS (sb1 _ _ nS kS)
 refine ⟨(by show 2<=sM;decide),λl0 hl0 =>?_⟩
 have g2:=af hl0 (.lst [.int d1,.int d2])
 have el0:upd G2 l0 (.lst [.int d1,.int d2]) l0=some (.lst [.int d1,.int d2]):=ae
 have kS:=g2 _ _ kS
 have lf3:=lf2.same g2
 have nl0:l0≠r:=lf2.ne hl0
 generalize upd G2 l0 (.lst [.int d1,.int d2])=G3 at g2 el0 kS lf3
 refine ⟨_,rfl,bH lf3 (by decide) (by decide) λd H4 d0 d1' sb4 lf4 =>?_⟩
 obtain ⟨v,ev,v0,v1⟩:∃v:Int,atI [V.int d1,V.int d2] d=some (.int v)/\0<=v/\v<=40:=by
  have:d=0\/d=1:=by omega
  rcases this with rfl | rfl
  ·exact ⟨d1,rfl,by omega,by omega⟩
  ·exact ⟨d2,rfl,by omega,by omega⟩
 have kS:=sb4 _ _ nS kS
 refine ⟨l0,_,d,_,rfl,rfl,SqL.of (sb4 _ _ nl0 el0),ev,?_⟩
 refine ⟨_,rfl,_,rfl,_,rfl,dA.mpr ⟨r,v,20,rfl,lf4,v0,by omega,by decide,by decide,λl H5 ts hl5 sb5 lf5 T lt =>?_⟩⟩
 have nlr:l≠r:=lf4.ne hl5
 have kS:=sb5 _ _ nS kS
 refine ⟨_,rfl,eL.mpr ⟨r,l,v,ts,rfl,lf5,nlr,T,by omega,v0,v1,λt rr xs k bad H6 sb6 lf6 et err nrr xl U hb nx =>?_⟩⟩
 have kS:=sb6 _ _ nS kS
 refine ⟨t,_,rfl,SqT.of et,rfl,_,_,rfl,_,_,rfl,rfl,?_⟩
 refine ⟨_,rfl,_,rfl,dD.mpr ⟨r,v,rfl,lf6,v0,v1,λt2 M wr H7 sb7 lf7 et2 hm =>?_⟩⟩
 have kS:=sb7 _ _ nS kS
 have err:=sb7 _ _ nrr err
 have U:fU H7 v xs k:=by
  have ii:∀{x:V} {b:Bool},x∈xs->Itm H6 v x b->Itm H7 v x b:=λ{x b} m h=>h.sb sb7 lf6 (nx x m)
  exact ⟨U.le,λj x a e=>ii (tD e) (U.yes j x a e),λx e=>ii (tD e) (U.no x e)⟩
 refine ⟨t2,_,rfl,SqT.of et2,rfl,_,_,rfl,_,_,rfl,rfl,?_⟩
 refine ⟨(by show 1<=sM;decide),λp1 hp1 =>?_⟩
 have g8:=af hp1 (.lst [.str "many"])
 have ep1:upd H7 p1 (.lst [.str "many"]) p1=some (.lst [.str "many"]):=ae
 generalize upd H7 p1 (.lst [.str "many"])=H8 at g8 ep1
 refine ⟨(by show 2<=sM;decide),λp2 hp2 =>?_⟩
 have g9:=af hp2 (.lst [.non,.ref p1])
 have ep2:upd H8 p2 (.lst [.non,.ref p1]) p2=some (.lst [.non,.ref p1]):=ae
 have ep1:=g9 _ _ ep1
 have s9:=g8.trans g9
 generalize upd H8 p2 (.lst [.non,.ref p1])=H9 at g9 ep1 ep2 s9
 have kS:=s9 _ _ kS
 have err:=s9 _ _ err
 have U:=U.same s9
 have hm:(wr=false/\M = .int v)\/(wr=true/\Bad H9 M (.ref rr)):=hm.imp id λ⟨e,f⟩=>⟨e,((f 0).2 rr).same s9⟩
 have lp1:(([V.non,.ref p1]:List V)[0]? = some V.non):=rfl
 have ixd:∀(Q:VK),(200<xs.length->Q (.ref p1) H9)->(xs.length<=200->Q .non H9)->qc K (.ref p2) (.int (if decide ((xs.length:Int)>200)=true then 1 else 0)) H9 Q:=λQ q1 q2=>by
  by_cases c:200<xs.length
  ·rw[decide_eq_true (show ((xs.length:Int)>200) by omega)]
   exact ⟨p2,_,1,_,rfl,rfl,SqL.of ep2,rfl,q1 c⟩
  ·rw[decide_eq_false (show ¬ ((xs.length:Int)>200) by omega)]
   exact ⟨p2,_,0,_,rfl,rfl,SqL.of ep2,rfl,q2 (by omega)⟩
 refine ⟨_,rfl,rr,_,rfl,.inl (SqL.of err),_,_,rfl,rfl,.inr ⟨_,rfl,ixd _ (λc =>?_) λc =>?_⟩⟩
 ·rcases hb with ⟨kl,rfl⟩ | ⟨kl,rfl⟩
  ·refine ⟨_,rfl,rfl,_,rfl,aS ?_⟩
   refine ⟨_,rfl,(by show 2<=sM;decide),λDD hDD =>?_⟩
   have gd:=af hDD (.lst [.str "bad",.int (k:Nat)])
   have eD:upd H9 DD (.lst [.str "bad",.int (k:Nat)]) DD=some (.lst [.str "bad",.int (k:Nat)]):=ae
   have kS:=gd _ _ kS
   have err:=gd _ _ err
   have U:=U.same gd
   generalize upd H9 DD (.lst [.str "bad",.int (k:Nat)])=HD at gd eD kS err U
   rcases hm with ⟨rfl,rfl⟩ | ⟨rfl,bd⟩
   ·refine ⟨_,rfl,_,rfl,aR ?_⟩
    refine ⟨_,rfl,_,rfl,aA.mpr ⟨_,_,rfl,.inr ⟨v,rr,xs,k,rfl,v0,v1,rfl,err,by omega,U,λ_ lf9 HX sX ef =>?_,λe=>absurd e (by omega),λe=>absurd e (by omega)⟩⟩⟩
    have kS:=sX _ _ kS
    have eD:=sX _ _ eD
    refine ⟨_,rfl,_,rfl,.inr ⟨lf9,DD,_,_,rfl,rfl,SqL.of ef,SqL.of eD,.cons bo (.cons bt .nil),_,rfl,aR ?_⟩⟩
    refine ⟨_,rfl,rfl,_,rfl,aS ⟨_,rfl,lf9,_,rfl,.inl (SqL.of ef),rfl,_,rfl,aS ⟨_,rfl,lf9,_,1,_,rfl,rfl,SqL.of ef,rfl,_, "bool",_,false,rfl,.int _,rfl,_,rfl,aR ?_⟩⟩⟩
    refine λpd hpd =>?_
    have ga:=af hpd (.dK [])
    have ed:upd HX pd (.dK []) pd=some (.dK []):=ae
    have kS:=ga _ _ kS
    generalize upd HX pd (.dK [])=HY at ga ed kS
    refine ⟨(by show 5<=sM;decide),λpl hpl =>?_⟩
    have gb:=af hpl (.lst [.non,.int 7,.str "ab",.ref pd,.bl true])
    have el:upd HY pl (.lst [.non,.int 7,.str "ab",.ref pd,.bl true]) pl=some (.lst [.non,.int 7,.str "ab",.ref pd,.bl true]):=ae
    have kS:=gb _ _ kS
    have ed:=gb _ _ ed
    generalize upd HY pl (.lst [.non,.int 7,.str "ab",.ref pd,.bl true])=HZ at gb el kS ed
    refine ⟨pl,rfl,⟨_,SqL.of el⟩,bz (xs:=[.non,.int 7,.str "ab",.ref pd,.bl true]) (λi σ H'=>(∃e1 e2 e4 e5 e6 e7 e8 e9 cc,σ=[some (.ref a),e1,e2,some (.int v),e4,e5,e6,e7,e8,e9,cc])/\H' S=some (.lst ([.int 0]++ns.map V.int))/\H' pl=some (.lst [.non,.int 7,.str "ab",.ref pd,.bl true])/\H' pd=some (.dK [])) ⟨⟨_,_,_,_,_,_,_,_,_,rfl⟩,kS,el,ed⟩ (λi σ H' _ h=>SqL.of h.2.2.1) ?_ ?_⟩
    ·rintro i x σ H1 hx ⟨⟨e1,e2,e4,e5,e6,e7,e8,e9,cc,rfl⟩,kS,el,ed⟩
     have fl:Flt H1 x:=by
      have m:=tD hx
      simp only[tG,uT,or_false] at m
      rcases m with rfl | rfl | rfl | rfl | rfl
      ·exact .non
      ·exact .int _
      ·exact .str _
      ·exact .dic ed
      ·exact .bl _
     refine ⟨_,rfl,_,rfl,aA.mpr ⟨_,_,rfl,.inl ⟨.row v0 v1 fl,λl2 H2 s2 e2 =>?_⟩⟩⟩
     refine ⟨_,rfl,(by show 2<=sM;decide),λp5 hp5 =>?_⟩
     have g5:=af hp5 (.lst [.str "bad",.int (-1)])
     refine .inr ⟨l2,p5,_,_,rfl,rfl,SqL.of (g5 _ _ e2),SqL.of ae,.cons bo (.cons bt .nil),_,rfl,aR ?_⟩
     have s6:=s2.trans g5
     exact ⟨⟨_,_,_,_,_,_,_,_,_,rfl⟩,s6 _ _ kS,s6 _ _ el,s6 _ _ ed⟩
    ·rintro σ H1 ⟨⟨e1,e2,e4,e5,e6,e7,e8,e9,cc,rfl⟩,kS,el,ed⟩
     exact ⟨⟨_,_,_,_,_,_,_,_,_,_,rfl⟩,kS⟩
   ·have bd:=bd.same gd
    skip
    refine ⟨_,rfl,_,rfl,aS ⟨_,rfl,(by show 2<=sM;decide),λD2 hD2 =>?_⟩⟩
    have gd:=af hD2 (.lst [.str "bad",.int (-1)])
    have eD:upd HD D2 (.lst [.str "bad",.int (-1)]) D2=some (.lst [.str "bad",.int (-1)]):=ae
    have kS:=gd _ _ kS
    have bd:=bd.same gd
    generalize upd HD D2 (.lst [.str "bad",.int (-1)])=HD at gd eD kS bd
    refine ⟨_,rfl,_,rfl,aA.mpr ⟨_,_,rfl,.inl ⟨bd,λlf9 HX sX ef =>?_⟩⟩⟩
    have kS:=sX _ _ kS
    have eD:=sX _ _ eD
    refine ⟨_,rfl,_,rfl,.inr ⟨lf9,D2,_,_,rfl,rfl,SqL.of ef,SqL.of eD,.cons bo (.cons bt .nil),_,rfl,aR ?_⟩⟩
    refine ⟨_,rfl,rfl,_,rfl,aS ⟨_,rfl,lf9,_,rfl,.inl (SqL.of ef),rfl,_,rfl,aS ⟨_,rfl,lf9,_,1,_,rfl,rfl,SqL.of ef,rfl,_, "bool",_,false,rfl,.int _,rfl,_,rfl,aR ?_⟩⟩⟩
    refine λpd hpd =>?_
    have ga:=af hpd (.dK [])
    have ed:upd HX pd (.dK []) pd=some (.dK []):=ae
    have kS:=ga _ _ kS
    generalize upd HX pd (.dK [])=HY at ga ed kS
    refine ⟨(by show 5<=sM;decide),λpl hpl =>?_⟩
    have gb:=af hpl (.lst [.non,.int 7,.str "ab",.ref pd,.bl true])
    have el:upd HY pl (.lst [.non,.int 7,.str "ab",.ref pd,.bl true]) pl=some (.lst [.non,.int 7,.str "ab",.ref pd,.bl true]):=ae
    have kS:=gb _ _ kS
    have ed:=gb _ _ ed
    generalize upd HY pl (.lst [.non,.int 7,.str "ab",.ref pd,.bl true])=HZ at gb el kS ed
    refine ⟨pl,rfl,⟨_,SqL.of el⟩,bz (xs:=[.non,.int 7,.str "ab",.ref pd,.bl true]) (λi σ H'=>(∃e1 e2 e4 e5 e6 e7 e8 e9 cc,σ=[some (.ref a),e1,e2,some (.int v),e4,e5,e6,e7,e8,e9,cc])/\H' S=some (.lst ([.int 0]++ns.map V.int))/\H' pl=some (.lst [.non,.int 7,.str "ab",.ref pd,.bl true])/\H' pd=some (.dK [])) ⟨⟨_,_,_,_,_,_,_,_,_,rfl⟩,kS,el,ed⟩ (λi σ H' _ h=>SqL.of h.2.2.1) ?_ ?_⟩
    ·rintro i x σ H1 hx ⟨⟨e1,e2,e4,e5,e6,e7,e8,e9,cc,rfl⟩,kS,el,ed⟩
     have fl:Flt H1 x:=by
      have m:=tD hx
      simp only[tG,uT,or_false] at m
      rcases m with rfl | rfl | rfl | rfl | rfl
      ·exact .non
      ·exact .int _
      ·exact .str _
      ·exact .dic ed
      ·exact .bl _
     refine ⟨_,rfl,_,rfl,aA.mpr ⟨_,_,rfl,.inl ⟨.row v0 v1 fl,λl2 H2 s2 e2 =>?_⟩⟩⟩
     refine ⟨_,rfl,(by show 2<=sM;decide),λp5 hp5 =>?_⟩
     have g5:=af hp5 (.lst [.str "bad",.int (-1)])
     refine .inr ⟨l2,p5,_,_,rfl,rfl,SqL.of (g5 _ _ e2),SqL.of ae,.cons bo (.cons bt .nil),_,rfl,aR ?_⟩
     have s6:=s2.trans g5
     exact ⟨⟨_,_,_,_,_,_,_,_,_,rfl⟩,s6 _ _ kS,s6 _ _ el,s6 _ _ ed⟩
    ·rintro σ H1 ⟨⟨e1,e2,e4,e5,e6,e7,e8,e9,cc,rfl⟩,kS,el,ed⟩
     exact ⟨⟨_,_,_,_,_,_,_,_,_,_,rfl⟩,kS⟩
  ·refine ⟨_,rfl,rfl,_,rfl,aR ?_⟩
   rcases hm with ⟨rfl,rfl⟩ | ⟨rfl,bd⟩
   ·refine ⟨_,rfl,_,rfl,aR ?_⟩
    refine ⟨_,rfl,_,rfl,aA.mpr ⟨_,_,rfl,.inr ⟨v,rr,xs,k,rfl,v0,v1,rfl,err,by omega,U,λe=>absurd e (by omega),λ_ _ lf9 HX sX ef =>?_,λ_ e=>absurd e (by omega)⟩⟩⟩
    have kS:=sX _ _ kS
    have eD:=sX _ _ ep1
    refine ⟨_,rfl,_,rfl,.inr ⟨lf9,p1,_,_,rfl,rfl,SqL.of ef,SqL.of eD,.cons bo .nil,_,rfl,aR ?_⟩⟩
    refine ⟨_,rfl,rfl,_,rfl,aS ⟨_,rfl,lf9,_,rfl,.inl (SqL.of ef),rfl,_,rfl,aR ?_⟩⟩
    refine λpd hpd =>?_
    have ga:=af hpd (.dK [])
    have ed:upd HX pd (.dK []) pd=some (.dK []):=ae
    have kS:=ga _ _ kS
    generalize upd HX pd (.dK [])=HY at ga ed kS
    refine ⟨(by show 5<=sM;decide),λpl hpl =>?_⟩
    have gb:=af hpl (.lst [.non,.int 7,.str "ab",.ref pd,.bl true])
    have el:upd HY pl (.lst [.non,.int 7,.str "ab",.ref pd,.bl true]) pl=some (.lst [.non,.int 7,.str "ab",.ref pd,.bl true]):=ae
    have kS:=gb _ _ kS
    have ed:=gb _ _ ed
    generalize upd HY pl (.lst [.non,.int 7,.str "ab",.ref pd,.bl true])=HZ at gb el kS ed
    refine ⟨pl,rfl,⟨_,SqL.of el⟩,bz (xs:=[.non,.int 7,.str "ab",.ref pd,.bl true]) (λi σ H'=>(∃e1 e2 e4 e5 e6 e7 e8 e9 cc,σ=[some (.ref a),e1,e2,some (.int v),e4,e5,e6,e7,e8,e9,cc])/\H' S=some (.lst ([.int 0]++ns.map V.int))/\H' pl=some (.lst [.non,.int 7,.str "ab",.ref pd,.bl true])/\H' pd=some (.dK [])) ⟨⟨_,_,_,_,_,_,_,_,_,rfl⟩,kS,el,ed⟩ (λi σ H' _ h=>SqL.of h.2.2.1) ?_ ?_⟩
    ·rintro i x σ H1 hx ⟨⟨e1,e2,e4,e5,e6,e7,e8,e9,cc,rfl⟩,kS,el,ed⟩
     have fl:Flt H1 x:=by
      have m:=tD hx
      simp only[tG,uT,or_false] at m
      rcases m with rfl | rfl | rfl | rfl | rfl
      ·exact .non
      ·exact .int _
      ·exact .str _
      ·exact .dic ed
      ·exact .bl _
     refine ⟨_,rfl,_,rfl,aA.mpr ⟨_,_,rfl,.inl ⟨.row v0 v1 fl,λl2 H2 s2 e2 =>?_⟩⟩⟩
     refine ⟨_,rfl,(by show 2<=sM;decide),λp5 hp5 =>?_⟩
     have g5:=af hp5 (.lst [.str "bad",.int (-1)])
     refine .inr ⟨l2,p5,_,_,rfl,rfl,SqL.of (g5 _ _ e2),SqL.of ae,.cons bo (.cons bt .nil),_,rfl,aR ?_⟩
     have s6:=s2.trans g5
     exact ⟨⟨_,_,_,_,_,_,_,_,_,rfl⟩,s6 _ _ kS,s6 _ _ el,s6 _ _ ed⟩
    ·rintro σ H1 ⟨⟨e1,e2,e4,e5,e6,e7,e8,e9,cc,rfl⟩,kS,el,ed⟩
     exact ⟨⟨_,_,_,_,_,_,_,_,_,_,rfl⟩,kS⟩
   ·refine ⟨_,rfl,_,rfl,aS ⟨_,rfl,(by show 2<=sM;decide),λDD hDD =>?_⟩⟩
    have gd:=af hDD (.lst [.str "bad",.int (-1)])
    have eD:upd H9 DD (.lst [.str "bad",.int (-1)]) DD=some (.lst [.str "bad",.int (-1)]):=ae
    have kS:=gd _ _ kS
    have bd:=bd.same gd
    generalize upd H9 DD (.lst [.str "bad",.int (-1)])=HD at gd eD kS bd
    refine ⟨_,rfl,_,rfl,aA.mpr ⟨_,_,rfl,.inl ⟨bd,λlf9 HX sX ef =>?_⟩⟩⟩
    have kS:=sX _ _ kS
    have eD:=sX _ _ eD
    refine ⟨_,rfl,_,rfl,.inr ⟨lf9,DD,_,_,rfl,rfl,SqL.of ef,SqL.of eD,.cons bo (.cons bt .nil),_,rfl,aR ?_⟩⟩
    refine ⟨_,rfl,rfl,_,rfl,aS ⟨_,rfl,lf9,_,rfl,.inl (SqL.of ef),rfl,_,rfl,aS ⟨_,rfl,lf9,_,1,_,rfl,rfl,SqL.of ef,rfl,_, "bool",_,false,rfl,.int _,rfl,_,rfl,aR ?_⟩⟩⟩
    refine λpd hpd =>?_
    have ga:=af hpd (.dK [])
    have ed:upd HX pd (.dK []) pd=some (.dK []):=ae
    have kS:=ga _ _ kS
    generalize upd HX pd (.dK [])=HY at ga ed kS
    refine ⟨(by show 5<=sM;decide),λpl hpl =>?_⟩
    have gb:=af hpl (.lst [.non,.int 7,.str "ab",.ref pd,.bl true])
    have el:upd HY pl (.lst [.non,.int 7,.str "ab",.ref pd,.bl true]) pl=some (.lst [.non,.int 7,.str "ab",.ref pd,.bl true]):=ae
    have kS:=gb _ _ kS
    have ed:=gb _ _ ed
    generalize upd HY pl (.lst [.non,.int 7,.str "ab",.ref pd,.bl true])=HZ at gb el kS ed
    refine ⟨pl,rfl,⟨_,SqL.of el⟩,bz (xs:=[.non,.int 7,.str "ab",.ref pd,.bl true]) (λi σ H'=>(∃e1 e2 e4 e5 e6 e7 e8 e9 cc,σ=[some (.ref a),e1,e2,some (.int v),e4,e5,e6,e7,e8,e9,cc])/\H' S=some (.lst ([.int 0]++ns.map V.int))/\H' pl=some (.lst [.non,.int 7,.str "ab",.ref pd,.bl true])/\H' pd=some (.dK [])) ⟨⟨_,_,_,_,_,_,_,_,_,rfl⟩,kS,el,ed⟩ (λi σ H' _ h=>SqL.of h.2.2.1) ?_ ?_⟩
    ·rintro i x σ H1 hx ⟨⟨e1,e2,e4,e5,e6,e7,e8,e9,cc,rfl⟩,kS,el,ed⟩
     have fl:Flt H1 x:=by
      have m:=tD hx
      simp only[tG,uT,or_false] at m
      rcases m with rfl | rfl | rfl | rfl | rfl
      ·exact .non
      ·exact .int _
      ·exact .str _
      ·exact .dic ed
      ·exact .bl _
     refine ⟨_,rfl,_,rfl,aA.mpr ⟨_,_,rfl,.inl ⟨.row v0 v1 fl,λl2 H2 s2 e2 =>?_⟩⟩⟩
     refine ⟨_,rfl,(by show 2<=sM;decide),λp5 hp5 =>?_⟩
     have g5:=af hp5 (.lst [.str "bad",.int (-1)])
     refine .inr ⟨l2,p5,_,_,rfl,rfl,SqL.of (g5 _ _ e2),SqL.of ae,.cons bo (.cons bt .nil),_,rfl,aR ?_⟩
     have s6:=s2.trans g5
     exact ⟨⟨_,_,_,_,_,_,_,_,_,rfl⟩,s6 _ _ kS,s6 _ _ el,s6 _ _ ed⟩
    ·rintro σ H1 ⟨⟨e1,e2,e4,e5,e6,e7,e8,e9,cc,rfl⟩,kS,el,ed⟩
     exact ⟨⟨_,_,_,_,_,_,_,_,_,_,rfl⟩,kS⟩
 ·rcases hb with ⟨kl,rfl⟩ | ⟨kl,rfl⟩
  ·refine ⟨_,rfl,rfl,_,rfl,aS ?_⟩
   refine ⟨_,rfl,(by show 2<=sM;decide),λDD hDD =>?_⟩
   have gd:=af hDD (.lst [.str "bad",.int (k:Nat)])
   have eD:upd H9 DD (.lst [.str "bad",.int (k:Nat)]) DD=some (.lst [.str "bad",.int (k:Nat)]):=ae
   have kS:=gd _ _ kS
   have err:=gd _ _ err
   have U:=U.same gd
   generalize upd H9 DD (.lst [.str "bad",.int (k:Nat)])=HD at gd eD kS err U
   rcases hm with ⟨rfl,rfl⟩ | ⟨rfl,bd⟩
   ·refine ⟨_,rfl,_,rfl,aR ?_⟩
    refine ⟨_,rfl,_,rfl,aA.mpr ⟨_,_,rfl,.inr ⟨v,rr,xs,k,rfl,v0,v1,rfl,err,by omega,U,λ_ lf9 HX sX ef =>?_,λe=>absurd e (by omega),λe=>absurd e (by omega)⟩⟩⟩
    have kS:=sX _ _ kS
    have eD:=sX _ _ eD
    refine ⟨_,rfl,_,rfl,.inr ⟨lf9,DD,_,_,rfl,rfl,SqL.of ef,SqL.of eD,.cons bo (.cons bt .nil),_,rfl,aR ?_⟩⟩
    refine ⟨_,rfl,rfl,_,rfl,aS ⟨_,rfl,lf9,_,rfl,.inl (SqL.of ef),rfl,_,rfl,aS ⟨_,rfl,lf9,_,1,_,rfl,rfl,SqL.of ef,rfl,_, "bool",_,false,rfl,.int _,rfl,_,rfl,aR ?_⟩⟩⟩
    refine λpd hpd =>?_
    have ga:=af hpd (.dK [])
    have ed:upd HX pd (.dK []) pd=some (.dK []):=ae
    have kS:=ga _ _ kS
    generalize upd HX pd (.dK [])=HY at ga ed kS
    refine ⟨(by show 5<=sM;decide),λpl hpl =>?_⟩
    have gb:=af hpl (.lst [.non,.int 7,.str "ab",.ref pd,.bl true])
    have el:upd HY pl (.lst [.non,.int 7,.str "ab",.ref pd,.bl true]) pl=some (.lst [.non,.int 7,.str "ab",.ref pd,.bl true]):=ae
    have kS:=gb _ _ kS
    have ed:=gb _ _ ed
    generalize upd HY pl (.lst [.non,.int 7,.str "ab",.ref pd,.bl true])=HZ at gb el kS ed
    refine ⟨pl,rfl,⟨_,SqL.of el⟩,bz (xs:=[.non,.int 7,.str "ab",.ref pd,.bl true]) (λi σ H'=>(∃e1 e2 e4 e5 e6 e7 e8 e9 cc,σ=[some (.ref a),e1,e2,some (.int v),e4,e5,e6,e7,e8,e9,cc])/\H' S=some (.lst ([.int 0]++ns.map V.int))/\H' pl=some (.lst [.non,.int 7,.str "ab",.ref pd,.bl true])/\H' pd=some (.dK [])) ⟨⟨_,_,_,_,_,_,_,_,_,rfl⟩,kS,el,ed⟩ (λi σ H' _ h=>SqL.of h.2.2.1) ?_ ?_⟩
    ·rintro i x σ H1 hx ⟨⟨e1,e2,e4,e5,e6,e7,e8,e9,cc,rfl⟩,kS,el,ed⟩
     have fl:Flt H1 x:=by
      have m:=tD hx
      simp only[tG,uT,or_false] at m
      rcases m with rfl | rfl | rfl | rfl | rfl
      ·exact .non
      ·exact .int _
      ·exact .str _
      ·exact .dic ed
      ·exact .bl _
     refine ⟨_,rfl,_,rfl,aA.mpr ⟨_,_,rfl,.inl ⟨.row v0 v1 fl,λl2 H2 s2 e2 =>?_⟩⟩⟩
     refine ⟨_,rfl,(by show 2<=sM;decide),λp5 hp5 =>?_⟩
     have g5:=af hp5 (.lst [.str "bad",.int (-1)])
     refine .inr ⟨l2,p5,_,_,rfl,rfl,SqL.of (g5 _ _ e2),SqL.of ae,.cons bo (.cons bt .nil),_,rfl,aR ?_⟩
     have s6:=s2.trans g5
     exact ⟨⟨_,_,_,_,_,_,_,_,_,rfl⟩,s6 _ _ kS,s6 _ _ el,s6 _ _ ed⟩
    ·rintro σ H1 ⟨⟨e1,e2,e4,e5,e6,e7,e8,e9,cc,rfl⟩,kS,el,ed⟩
     exact ⟨⟨_,_,_,_,_,_,_,_,_,_,rfl⟩,kS⟩
   ·have bd:=bd.same gd
    skip
    refine ⟨_,rfl,_,rfl,aS ⟨_,rfl,(by show 2<=sM;decide),λD2 hD2 =>?_⟩⟩
    have gd:=af hD2 (.lst [.str "bad",.int (-1)])
    have eD:upd HD D2 (.lst [.str "bad",.int (-1)]) D2=some (.lst [.str "bad",.int (-1)]):=ae
    have kS:=gd _ _ kS
    have bd:=bd.same gd
    generalize upd HD D2 (.lst [.str "bad",.int (-1)])=HD at gd eD kS bd
    refine ⟨_,rfl,_,rfl,aA.mpr ⟨_,_,rfl,.inl ⟨bd,λlf9 HX sX ef =>?_⟩⟩⟩
    have kS:=sX _ _ kS
    have eD:=sX _ _ eD
    refine ⟨_,rfl,_,rfl,.inr ⟨lf9,D2,_,_,rfl,rfl,SqL.of ef,SqL.of eD,.cons bo (.cons bt .nil),_,rfl,aR ?_⟩⟩
    refine ⟨_,rfl,rfl,_,rfl,aS ⟨_,rfl,lf9,_,rfl,.inl (SqL.of ef),rfl,_,rfl,aS ⟨_,rfl,lf9,_,1,_,rfl,rfl,SqL.of ef,rfl,_, "bool",_,false,rfl,.int _,rfl,_,rfl,aR ?_⟩⟩⟩
    refine λpd hpd =>?_
    have ga:=af hpd (.dK [])
    have ed:upd HX pd (.dK []) pd=some (.dK []):=ae
    have kS:=ga _ _ kS
    generalize upd HX pd (.dK [])=HY at ga ed kS
    refine ⟨(by show 5<=sM;decide),λpl hpl =>?_⟩
    have gb:=af hpl (.lst [.non,.int 7,.str "ab",.ref pd,.bl true])
    have el:upd HY pl (.lst [.non,.int 7,.str "ab",.ref pd,.bl true]) pl=some (.lst [.non,.int 7,.str "ab",.ref pd,.bl true]):=ae
    have kS:=gb _ _ kS
    have ed:=gb _ _ ed
    generalize upd HY pl (.lst [.non,.int 7,.str "ab",.ref pd,.bl true])=HZ at gb el kS ed
    refine ⟨pl,rfl,⟨_,SqL.of el⟩,bz (xs:=[.non,.int 7,.str "ab",.ref pd,.bl true]) (λi σ H'=>(∃e1 e2 e4 e5 e6 e7 e8 e9 cc,σ=[some (.ref a),e1,e2,some (.int v),e4,e5,e6,e7,e8,e9,cc])/\H' S=some (.lst ([.int 0]++ns.map V.int))/\H' pl=some (.lst [.non,.int 7,.str "ab",.ref pd,.bl true])/\H' pd=some (.dK [])) ⟨⟨_,_,_,_,_,_,_,_,_,rfl⟩,kS,el,ed⟩ (λi σ H' _ h=>SqL.of h.2.2.1) ?_ ?_⟩
    ·rintro i x σ H1 hx ⟨⟨e1,e2,e4,e5,e6,e7,e8,e9,cc,rfl⟩,kS,el,ed⟩
     have fl:Flt H1 x:=by
      have m:=tD hx
      simp only[tG,uT,or_false] at m
      rcases m with rfl | rfl | rfl | rfl | rfl
      ·exact .non
      ·exact .int _
      ·exact .str _
      ·exact .dic ed
      ·exact .bl _
     refine ⟨_,rfl,_,rfl,aA.mpr ⟨_,_,rfl,.inl ⟨.row v0 v1 fl,λl2 H2 s2 e2 =>?_⟩⟩⟩
     refine ⟨_,rfl,(by show 2<=sM;decide),λp5 hp5 =>?_⟩
     have g5:=af hp5 (.lst [.str "bad",.int (-1)])
     refine .inr ⟨l2,p5,_,_,rfl,rfl,SqL.of (g5 _ _ e2),SqL.of ae,.cons bo (.cons bt .nil),_,rfl,aR ?_⟩
     have s6:=s2.trans g5
     exact ⟨⟨_,_,_,_,_,_,_,_,_,rfl⟩,s6 _ _ kS,s6 _ _ el,s6 _ _ ed⟩
    ·rintro σ H1 ⟨⟨e1,e2,e4,e5,e6,e7,e8,e9,cc,rfl⟩,kS,el,ed⟩
     exact ⟨⟨_,_,_,_,_,_,_,_,_,_,rfl⟩,kS⟩
  ·refine ⟨_,rfl,rfl,_,rfl,aR ?_⟩
   rcases hm with ⟨rfl,rfl⟩ | ⟨rfl,bd⟩
   ·refine ⟨_,rfl,_,rfl,aR ?_⟩
    refine ⟨_,rfl,_,rfl,aA.mpr ⟨_,_,rfl,.inr ⟨v,rr,xs,k,rfl,v0,v1,rfl,err,by omega,U,λe=>absurd e (by omega),λ_ e=>absurd e (by omega),λ_ _ HX sX =>?_⟩⟩⟩
    have kS:=sX _ _ kS
    refine ⟨_,rfl,_,rfl,.inl ⟨rfl,rfl,_,rfl,aR ?_⟩⟩
    refine ⟨_,rfl,rfl,_,rfl,aR ?_⟩
    refine λpd hpd =>?_
    have ga:=af hpd (.dK [])
    have ed:upd HX pd (.dK []) pd=some (.dK []):=ae
    have kS:=ga _ _ kS
    generalize upd HX pd (.dK [])=HY at ga ed kS
    refine ⟨(by show 5<=sM;decide),λpl hpl =>?_⟩
    have gb:=af hpl (.lst [.non,.int 7,.str "ab",.ref pd,.bl true])
    have el:upd HY pl (.lst [.non,.int 7,.str "ab",.ref pd,.bl true]) pl=some (.lst [.non,.int 7,.str "ab",.ref pd,.bl true]):=ae
    have kS:=gb _ _ kS
    have ed:=gb _ _ ed
    generalize upd HY pl (.lst [.non,.int 7,.str "ab",.ref pd,.bl true])=HZ at gb el kS ed
    refine ⟨pl,rfl,⟨_,SqL.of el⟩,bz (xs:=[.non,.int 7,.str "ab",.ref pd,.bl true]) (λi σ H'=>(∃e1 e2 e4 e5 e6 e7 e8 e9 cc,σ=[some (.ref a),e1,e2,some (.int v),e4,e5,e6,e7,e8,e9,cc])/\H' S=some (.lst ([.int 0]++ns.map V.int))/\H' pl=some (.lst [.non,.int 7,.str "ab",.ref pd,.bl true])/\H' pd=some (.dK [])) ⟨⟨_,_,_,_,_,_,_,_,_,rfl⟩,kS,el,ed⟩ (λi σ H' _ h=>SqL.of h.2.2.1) ?_ ?_⟩
    ·rintro i x σ H1 hx ⟨⟨e1,e2,e4,e5,e6,e7,e8,e9,cc,rfl⟩,kS,el,ed⟩
     have fl:Flt H1 x:=by
      have m:=tD hx
      simp only[tG,uT,or_false] at m
      rcases m with rfl | rfl | rfl | rfl | rfl
      ·exact .non
      ·exact .int _
      ·exact .str _
      ·exact .dic ed
      ·exact .bl _
     refine ⟨_,rfl,_,rfl,aA.mpr ⟨_,_,rfl,.inl ⟨.row v0 v1 fl,λl2 H2 s2 e2 =>?_⟩⟩⟩
     refine ⟨_,rfl,(by show 2<=sM;decide),λp5 hp5 =>?_⟩
     have g5:=af hp5 (.lst [.str "bad",.int (-1)])
     refine .inr ⟨l2,p5,_,_,rfl,rfl,SqL.of (g5 _ _ e2),SqL.of ae,.cons bo (.cons bt .nil),_,rfl,aR ?_⟩
     have s6:=s2.trans g5
     exact ⟨⟨_,_,_,_,_,_,_,_,_,rfl⟩,s6 _ _ kS,s6 _ _ el,s6 _ _ ed⟩
    ·rintro σ H1 ⟨⟨e1,e2,e4,e5,e6,e7,e8,e9,cc,rfl⟩,kS,el,ed⟩
     exact ⟨⟨_,_,_,_,_,_,_,_,_,_,rfl⟩,kS⟩
   ·refine ⟨_,rfl,_,rfl,aS ⟨_,rfl,(by show 2<=sM;decide),λDD hDD =>?_⟩⟩
    have gd:=af hDD (.lst [.str "bad",.int (-1)])
    have eD:upd H9 DD (.lst [.str "bad",.int (-1)]) DD=some (.lst [.str "bad",.int (-1)]):=ae
    have kS:=gd _ _ kS
    have bd:=bd.same gd
    generalize upd H9 DD (.lst [.str "bad",.int (-1)])=HD at gd eD kS bd
    refine ⟨_,rfl,_,rfl,aA.mpr ⟨_,_,rfl,.inl ⟨bd,λlf9 HX sX ef =>?_⟩⟩⟩
    have kS:=sX _ _ kS
    have eD:=sX _ _ eD
    refine ⟨_,rfl,_,rfl,.inr ⟨lf9,DD,_,_,rfl,rfl,SqL.of ef,SqL.of eD,.cons bo (.cons bt .nil),_,rfl,aR ?_⟩⟩
    refine ⟨_,rfl,rfl,_,rfl,aS ⟨_,rfl,lf9,_,rfl,.inl (SqL.of ef),rfl,_,rfl,aS ⟨_,rfl,lf9,_,1,_,rfl,rfl,SqL.of ef,rfl,_, "bool",_,false,rfl,.int _,rfl,_,rfl,aR ?_⟩⟩⟩
    refine λpd hpd =>?_
    have ga:=af hpd (.dK [])
    have ed:upd HX pd (.dK []) pd=some (.dK []):=ae
    have kS:=ga _ _ kS
    generalize upd HX pd (.dK [])=HY at ga ed kS
    refine ⟨(by show 5<=sM;decide),λpl hpl =>?_⟩
    have gb:=af hpl (.lst [.non,.int 7,.str "ab",.ref pd,.bl true])
    have el:upd HY pl (.lst [.non,.int 7,.str "ab",.ref pd,.bl true]) pl=some (.lst [.non,.int 7,.str "ab",.ref pd,.bl true]):=ae
    have kS:=gb _ _ kS
    have ed:=gb _ _ ed
    generalize upd HY pl (.lst [.non,.int 7,.str "ab",.ref pd,.bl true])=HZ at gb el kS ed
    refine ⟨pl,rfl,⟨_,SqL.of el⟩,bz (xs:=[.non,.int 7,.str "ab",.ref pd,.bl true]) (λi σ H'=>(∃e1 e2 e4 e5 e6 e7 e8 e9 cc,σ=[some (.ref a),e1,e2,some (.int v),e4,e5,e6,e7,e8,e9,cc])/\H' S=some (.lst ([.int 0]++ns.map V.int))/\H' pl=some (.lst [.non,.int 7,.str "ab",.ref pd,.bl true])/\H' pd=some (.dK [])) ⟨⟨_,_,_,_,_,_,_,_,_,rfl⟩,kS,el,ed⟩ (λi σ H' _ h=>SqL.of h.2.2.1) ?_ ?_⟩
    ·rintro i x σ H1 hx ⟨⟨e1,e2,e4,e5,e6,e7,e8,e9,cc,rfl⟩,kS,el,ed⟩
     have fl:Flt H1 x:=by
      have m:=tD hx
      simp only[tG,uT,or_false] at m
      rcases m with rfl | rfl | rfl | rfl | rfl
      ·exact .non
      ·exact .int _
      ·exact .str _
      ·exact .dic ed
      ·exact .bl _
     refine ⟨_,rfl,_,rfl,aA.mpr ⟨_,_,rfl,.inl ⟨.row v0 v1 fl,λl2 H2 s2 e2 =>?_⟩⟩⟩
     refine ⟨_,rfl,(by show 2<=sM;decide),λp5 hp5 =>?_⟩
     have g5:=af hp5 (.lst [.str "bad",.int (-1)])
     refine .inr ⟨l2,p5,_,_,rfl,rfl,SqL.of (g5 _ _ e2),SqL.of ae,.cons bo (.cons bt .nil),_,rfl,aR ?_⟩
     have s6:=s2.trans g5
     exact ⟨⟨_,_,_,_,_,_,_,_,_,rfl⟩,s6 _ _ kS,s6 _ _ el,s6 _ _ ed⟩
    ·rintro σ H1 ⟨⟨e1,e2,e4,e5,e6,e7,e8,e9,cc,rfl⟩,kS,el,ed⟩
     exact ⟨⟨_,_,_,_,_,_,_,_,_,_,rfl⟩,kS⟩
end
open PySem L2
theorem all_mk {l:PySem.W.OpenLaw}{w:ud}{K:sI}{h:Heap}{mg:Str->Option sJ}{fa:Addr}(X:K.In h)(G:h.Ns tF mg)(hfa:mg "law" = some (.ref fa))
  (h1:cg K "is_whole" fP) (h2:cg K "is_place" fQ) (h3:cg K "is_pair" il) (h4:cg K "tie_of" m5) (h5:cg K "made_web" fR) (h6:cg K "_law_mixed" kj) (h7:cg K "_law_deal" m6) (h8:cg K "_law_next" m7) (h9:cg K "_law_ties" m8) (h10:cg K "_law_odd" kn) (h11:cg K "_law_many" jI) (h12:cg K "_law_row" gI) (h13:cg K "_law_kind" jJ) (h14:cg K "_law_errors" fS) (h15:cg K "law" lK)
  (y_bool:tX K tF "bool" = some none) (y_divmod:tX K tF "divmod" = some none) (y_enumerate:tX K tF "enumerate" = some none) (y_int:tX K tF "int" = some none) (y_isinstance:tX K tF "isinstance" = some none) (y_len:tX K tF "len" = some none) (y_list:tX K tF "list" = some none) (y_max:tX K tF "max" = some none) (y_min:tX K tF "min" = some none) (y_range:tX K tF "range" = some none) (y_sorted:tX K tF "sorted" = some none) (y_tuple:tX K tF "tuple" = some none) (y_ValueError:tX K tF "ValueError" = some none)
  {t_MOST_PLACES:Nat} (q_MOST_PLACES:tX K tF "MOST_PLACES" = some (some (.int 40 t_MOST_PLACES)))
  {t_MOST_TIES:Nat} (q_MOST_TIES:tX K tF "MOST_TIES" = some (some (.int 200 t_MOST_TIES)))
  {c_WebError:Addr} (e_WebError:tX K tF "WebError" = some (some (.ref c_WebError)))
  {c_BadWeb:Addr} (e_BadWeb:tX K tF "BadWeb" = some (some (.ref c_BadWeb)))
  {c_NoStep:Addr} (e_NoStep:tX K tF "NoStep" = some (some (.ref c_NoStep)))
  {c_NoText:Addr} (e_NoText:tX K tF "NoText" = some (some (.ref c_NoText)))
  {c_TooMany:Addr} (e_TooMany:tX K tF "TooMany" = some (some (.ref c_TooMany)))
  {c_NoTie:Addr} (e_NoTie:tX K tF "NoTie" = some (some (.ref c_NoTie)))
  {c_NoRing:Addr} (e_NoRing:tX K tF "NoRing" = some (some (.ref c_NoRing)))
  {c_NotClear:Addr} (e_NotClear:tX K tF "NotClear" = some (some (.ref c_NotClear)))
  {c_NotThree:Addr} (e_NotThree:tX K tF "NotThree" = some (some (.ref c_NotThree)))
  {c_BadBoard:Addr} (e_BadBoard:tX K tF "BadBoard" = some (some (.ref c_BadBoard)))
  {c_NoRow:Addr} (e_NoRow:tX K tF "NoRow" = some (some (.ref c_NoRow)))
  {c_NoBack:Addr} (e_NoBack:tX K tF "NoBack" = some (some (.ref c_NoBack)))
  (xi_BadWeb:L2.bY K c_BadWeb=true)
  (xi_NoStep:L2.bY K c_NoStep=true)
  (xi_NoText:L2.bY K c_NoText=true)
  (xi_TooMany:L2.bY K c_TooMany=true)
  (xi_NoTie:L2.bY K c_NoTie=true)
  (xi_NoRing:L2.bY K c_NoRing=true)
  (xi_NotClear:L2.bY K c_NotClear=true)
  (xi_NotThree:L2.bY K c_NotThree=true)
  (xi_BadBoard:L2.bY K c_BadBoard=true)
  (xi_NoRow:L2.bY K c_NoRow=true)
  (xi_NoBack:L2.bY K c_NoBack=true)
  (xn_BadWeb:L2.i4 K c_BadWeb "at" = true)
  (xn_NoStep:L2.i4 K c_NoStep "at" = true)
  (xn_NoText:L2.i4 K c_NoText "at" = true)
  (xe_TooMany:PySem.W.excIn K c_TooMany L2.bA "ValueError.__new__" = true)
  (xe_NoTie:PySem.W.excIn K c_NoTie L2.bA "ValueError.__new__" = true)
  (xe_NoRing:PySem.W.excIn K c_NoRing L2.bA "ValueError.__new__" = true)
  (xe_NotClear:PySem.W.excIn K c_NotClear L2.bA "ValueError.__new__" = true)
  (xe_NotThree:PySem.W.excIn K c_NotThree L2.bA "ValueError.__new__" = true)
  (xe_BadBoard:PySem.W.excIn K c_BadBoard L2.bA "ValueError.__new__" = true)
  (xe_NoRow:PySem.W.excIn K c_NoRow L2.bA "ValueError.__new__" = true)
  (xe_NoBack:PySem.W.excIn K c_NoBack L2.bA "ValueError.__new__" = true)
  (kt:nk K [c_BadWeb,c_NoStep,c_NoText,c_TooMany,c_NoTie,c_NoRing,c_NotClear,c_NotThree,c_BadBoard,c_NoRow,c_NoBack] c_WebError=true)
  (xm_BadWeb:PySem.W.exmOne K (.ref c_BadWeb) (.ref c_WebError)=some true)
  (xo_BadWeb:PySem.W.kitAny K (.ref c_BadWeb) [.ref c_BadBoard,.ref c_NoBack,.ref c_NoRing,.ref c_NoRow,.ref c_NoStep,.ref c_NoText,.ref c_NoTie,.ref c_NotClear,.ref c_NotThree]=some false)
  (xm_TooMany:PySem.W.exmOne K (.ref c_TooMany) (.ref c_WebError)=some true)
  (xo_TooMany:PySem.W.kitAny K (.ref c_TooMany) [.ref c_BadBoard,.ref c_NoBack,.ref c_NoRing,.ref c_NoRow,.ref c_NoStep,.ref c_NoText,.ref c_NoTie,.ref c_NotClear,.ref c_NotThree]=some false)
  (w_ga:PySem.W.specialIn K (.ref c_WebError) "__getattribute__" = some (some (.builtin "type.__getattribute__")))
  (w_rd:PySem.W.readsIn K c_WebError (.type "type")=true)
  (w_fd:PySem.W.findCls K (.ref c_WebError) (.type "type") "__init__" = some (.val (.builtin "ValueError.__init__")))
  (hi_BadWeb:L2.i3 K c_BadWeb "__init__" "BadWeb.__init__" dv)
  (hi_NoStep:L2.i3 K c_NoStep "__init__" "NoStep.__init__" dw)
  (hi_NoText:L2.i3 K c_NoText "__init__" "NoText.__init__" dy)
  : ∃fd:uh,(∀(s:sL) (v:sJ),BindsTo s fd ⟨[v],[]⟩ [("script",v)])/\∀base:Heap,K.In base->base.Ns tF mg->aZ l.prog w K mg base CX0 6 fa fd ["script"] (jg K):=by
 obtain ⟨fl,od,an,sl,oc,kV,dc,pm,cd,ct,al,ll,cl,kl⟩:=h15
 have e:=hfa.symm.trans (um X G al)
 cases e
 have F15:=gX ll cl kl
 have z_bool:=uf X G y_bool
 have z_divmod:=uf X G y_divmod
 have z_enumerate:=uf X G y_enumerate
 have z_int:=uf X G y_int
 have z_isinstance:=uf X G y_isinstance
 have z_len:=uf X G y_len
 have z_list:=uf X G y_list
 have z_max:=uf X G y_max
 have z_min:=uf X G y_min
 have z_range:=uf X G y_range
 have z_sorted:=uf X G y_sorted
 have z_tuple:=uf X G y_tuple
 have z_ValueError:=uf X G y_ValueError
 have w_MOST_PLACES:=um X G q_MOST_PLACES
 have w_MOST_TIES:=um X G q_MOST_TIES
 refine ⟨PySem.W.fnOf "law" "law" (bF lK) (aX lK) (au lK) .none kV dc pm an cd ct,λs v =>.of_eq rfl,λbase kb nb =>?_⟩
 have B:Blt mg:=⟨z_bool,z_divmod,z_enumerate,z_int,z_isinstance,z_len,z_list,z_max,z_min,z_range,z_sorted,z_tuple,z_ValueError⟩
 have C:Cst mg:=⟨⟨_,w_MOST_PLACES⟩,⟨_,w_MOST_TIES⟩⟩
 have x_WebError:=um X G e_WebError
 have x_BadWeb:=um X G e_BadWeb
 have x_NoStep:=um X G e_NoStep
 have x_NoText:=um X G e_NoText
 have x_TooMany:=um X G e_TooMany
 have x_NoTie:=um X G e_NoTie
 have x_NoRing:=um X G e_NoRing
 have x_NotClear:=um X G e_NotClear
 have x_NotThree:=um X G e_NotThree
 have x_BadBoard:=um X G e_BadBoard
 have x_NoRow:=um X G e_NoRow
 have x_NoBack:=um X G e_NoBack
 have Z:Exs K mg c_WebError c_BadWeb c_NoStep c_NoText c_TooMany c_NoTie c_NoRing c_NotClear c_NotThree c_BadBoard c_NoRow c_NoBack:=⟨x_WebError,x_BadWeb,x_NoStep,x_NoText,x_TooMany,x_NoTie,x_NoRing,x_NotClear,x_NotThree,x_BadBoard,x_NoRow,x_NoBack,xi_BadWeb,xi_NoStep,xi_NoText,xi_TooMany,xi_NoTie,xi_NoRing,xi_NotClear,xi_NotThree,xi_BadBoard,xi_NoRow,xi_NoBack,xn_BadWeb,xn_NoStep,xn_NoText,xe_TooMany,xe_NoTie,xe_NoRing,xe_NotClear,xe_NotThree,xe_BadBoard,xe_NoRow,xe_NoBack,kt,xm_BadWeb,xo_BadWeb,xm_TooMany,xo_TooMany,w_ga,w_rd,w_fd⟩
 have cIsWhole:=h1.cal l.prog w base X G (λF=>lN F B C) λ_ _ _ _ _ _ us hl=>match us,hl with | [_],_=>rfl
 have cIsPlace:=h2.cal l.prog w base X G (λF=>lP F B cIsWhole C) λ_ _ _ _ _ _ us hl=>match us,hl with | [_,_],_=>rfl
 have cIsPair:=h3.cal l.prog w base X G (λF=>nj F B cIsPlace C) λ_ _ _ _ _ _ us hl=>match us,hl with | [_,_],_=>rfl
 have cTieOf:=h4.cal l.prog w base X G (λF=>sE F z_max z_min) λ_ _ _ _ _ _ us hl=>match us,hl with | [_,_],_=>rfl
 have iBadWeb:=hi_BadWeb.ini (L2.bJ xn_BadWeb).1 (L2.aI xi_BadWeb).2.1 l.prog w base (λF=>i8 F Z) λ_ _ _ _ _ _ us hl=>match us,hl with | [_,_],_=>rfl
 have iNoStep:=hi_NoStep.ini (L2.bJ xn_NoStep).1 (L2.aI xi_NoStep).2.1 l.prog w base (λF=>ja F Z) λ_ _ _ _ _ _ us hl=>match us,hl with | [_,_],_=>rfl
 have iNoText:=hi_NoText.ini (L2.bJ xn_NoText).1 (L2.aI xi_NoText).2.1 l.prog w base (λF=>jf F Z) λ_ _ _ _ _ _ us hl=>match us,hl with | [_,_],_=>rfl
 have xMade:=h5.su l.prog w base X G (λF=>lQ F B Z iBadWeb cIsWhole cIsPair cTieOf C) λ_ _ _ _ _ _ us hl=>match us,hl with | [_,_],_=>rfl
 have cLErrors:=h14.cal l.prog w base X G (λF=>lR F B Z iBadWeb iNoStep iNoText C) λ_ _ _ _ _ _ us hl=>match us,hl with | [_,_],_=>rfl
 have cLMixed:=h6.cal l.prog w base X G (λF=>oV F) λ_ _ _ _ _ _ us hl=>match us,hl with | [_,_],_=>rfl
 have cLDeal:=h7.cal l.prog w base X G (λF=>qR F cLMixed z_range) λ_ _ _ _ _ _ us hl=>match us,hl with | [_],_=>rfl
 have cLNext:=h8.cal l.prog w base X G (λF=>qS F z_divmod) λ_ _ _ _ _ _ us hl=>match us,hl with | [_,_],_=>rfl
 have cLOdd:=h10.cal l.prog w base X G (λF=>qX F B cLNext C) λ_ _ _ _ _ _ us hl=>match us,hl with | [_,_],_=>rfl
 have cLRow:=h12.cal l.prog w base X G (λF=>q8 F B cLNext cLOdd C) λ_ _ _ _ _ _ us hl=>match us,hl with | [_,_,_],_=>rfl
 have cLMany:=h11.cal l.prog w base X G (λF=>oY F B cLNext C) λ_ _ _ _ _ _ us hl=>match us,hl with | [_,_],_=>rfl
 have cLKind:=h13.cal l.prog w base X G (λF=>oX F B Z xMade C) λ_ _ _ _ _ _ us hl=>match us,hl with | [_,_],_=>rfl
 have cLTies:=h9.cal l.prog w base X G (λF=>qT F z_range z_min cLNext) λ_ _ _ _ _ _ us hl=>match us,hl with | [_,_,_],_=>rfl
 exact sF F15 B cLErrors cLDeal cLRow cLMany cLKind cLNext cLTies C
theorem walk {l:PySem.W.OpenLaw}{q:tj}{loose:List Str}{XP:(Str->Option sJ)->Heap->Prop}{YP:ud->Heap->Prop}{d:DefRec}{K:Params->sI}(hn:l.most=some 63)(hdf:d.params.defaults=[])
  (hY:∀(w:ud) (h:Heap),YP w h->(K w.params).In h)
  (F:∀(w:ud) (mg:Str->Option sJ) (fa:Addr) (h:Heap),(K w.params).In h->h.Ns tF mg->mg d.name=some (.ref fa) →
   ∃fd:uh,(∀(s:sL) (u:sJ),BindsTo s fd ⟨[u],[]⟩ [("script",u)])/\∀base:Heap,(K w.params).In base->base.Ns tF mg->aZ l.prog w (K w.params) mg base CX0 6 fa fd ["script"] (jg (K w.params))) :
  PySem.W.WalkO q loose XP YP l.row.toRowW d [] (λf vs=>PySem.call f vs) :=
 L2.nZ (n:=63) (k:=6) (x := "script") (CX:=λ_=>CX0) (sp:=λw=>jg (K w.params)) hn (by decide) hdf ⟨rfl,by decide,by decide⟩ hY F (λ_ _ a ns hl _ hS=>⟨a,ns,rfl,hS,hl,λ_=>rfl⟩) λ_ _ _ _ _ z=>z
end K02
def PySem.W.Fast.tw2239122205779438172:Nat:=0
def PySem.W.Fast.tw9723339830474905517:Nat:=0
def PySem.W.Fast.tw15759110745627690096:Nat:=0
def PySem.W.Fast.tw13667206292566651571:Nat:=0
def PySem.W.Fast.tw15002574819272524396:Nat:=0
def PySem.W.Fast.tw15162270142836037876:Nat:=0
def PySem.W.Fast.tw9686982274292519454:Nat:=0
def PySem.W.Fast.tw5529757612402796261:Nat:=0
def PySem.W.Fast.tw18177602868077560941:Nat:=0
def PySem.W.Fast.tw5686580428133556465:Nat:=0
def PySem.W.Fast.tw12006649862456064229:Nat:=0
def PySem.W.Fast.tw4225921266409515161:Nat:=0
def PySem.W.Fast.tw4340849398977786000:Nat:=0
def PySem.W.Fast.tw12832254308755779104:Nat:=0
def PySem.W.Fast.tw10684725929503660743:Nat:=0
def PySem.W.Fast.tw2403105393502750235:Nat:=0
def PySem.W.Fast.tw5555014387030042026:Nat:=0
def PySem.W.Fast.tw6799371790530057515:Nat:=0
def PySem.W.Fast.tw12382034032724373875:Nat:=0
def PySem.W.Fast.tw16059080780823710245:Nat:=0
def PySem.W.Fast.tw15100448362207644937:Nat:=0
def PySem.W.Fast.tw13406597870329948654:Nat:=0
def PySem.W.Fast.tw15711264877296100701:Nat:=0
def PySem.W.Fast.tw16017165691289207750:Nat:=0
def PySem.W.Fast.tw14514703416680071321:Nat:=0
def PySem.W.Fast.tw1704350169273536786:Nat:=0
def PySem.W.Fast.tw6985095491262562397:Nat:=0
def PySem.W.Fast.tw5128913868782538796:Nat:=0
def PySem.W.Fast.tw16675659830829646713:Nat:=0
def PySem.W.Fast.tw17414385116301509970:Nat:=0
def PySem.W.Fast.tw16302768425965238119:Nat:=0
def PySem.W.Fast.tw3917247907156345203:Nat:=0
def PySem.W.Fast.tw13820295127166188455:Nat:=0
def PySem.W.Fast.tw17000976181524917169:Nat:=0
def PySem.W.Fast.tw18258938433620933663:Nat:=0
def PySem.W.Fast.tw18311637811605870228:Nat:=0
def PySem.W.Fast.tw67608526123161038:Nat:=0
def PySem.W.Fast.tw16375221261736364599:Nat:=0
def PySem.W.Fast.tw7732886607039490560:Nat:=0
def PySem.W.Fast.tw2107144337099117996:Nat:=0
def PySem.W.Fast.tw8361935098064250254:Nat:=0
def PySem.W.Fast.tw313944680618534846:Nat:=0
def PySem.W.Fast.tw140129129445554611:Nat:=0
def PySem.W.Fast.tw14101799482321126380:Nat:=0
def PySem.W.Fast.tw16636806239810250586:Nat:=0
def PySem.W.Fast.tw14565114997641675767:Nat:=0
def PySem.W.Fast.tw10753960023989523576:Nat:=0
def PySem.W.Fast.tw6764811325397800931:Nat:=0
def PySem.W.Fast.tw61104260586868188:Nat:=0
def PySem.W.Fast.tw9439174269982122640:Nat:=0
def PySem.W.Fast.tw14482184055222880005:Nat:=0
def PySem.W.Fast.tw4562077179110584710:Nat:=0
def PySem.W.Fast.tw16306161352350647416:Nat:=0
def PySem.W.Fast.tw9062934326959014637:Nat:=0
def PySem.W.Fast.tw13448532324670704914:Nat:=0
def PySem.W.Fast.tw16330636394575637664:Nat:=0
def PySem.W.Fast.tw7506287387256011800:Nat:=0
def PySem.W.Fast.tw18181927999650434681:Nat:=0
def PySem.W.Fast.tw9766902973376453017:Nat:=0
def PySem.W.Fast.tw7258733801720666956:Nat:=0
def PySem.W.Fast.tw12212256485726161203:Nat:=0
def PySem.W.Fast.tw3316477744271830597:Nat:=0
def PySem.W.Fast.tw3754823511668067236:Nat:=0
def PySem.W.Fast.tw14532652611184652100:Nat:=0
def PySem.W.Fast.tw9350650520898202624:Nat:=0
def PySem.W.Fast.tw15776724130418463462:Nat:=0
def PySem.W.Fast.tw10204263693991580539:Nat:=0
def PySem.W.Fast.tw12527419786919292804:Nat:=0
def PySem.W.Fast.tw4841798621116615833:Nat:=0
def PySem.W.Fast.tw18154390497386444887:Nat:=0
def PySem.W.Fast.tw333438515036692272:Nat:=0
def PySem.W.Fast.tw17425106892604685233:Nat:=0
def PySem.W.Fast.tw8222927534898727731:Nat:=0
def PySem.W.Fast.tw3697186316340087525:Nat:=0
def PySem.W.Fast.tw16927475768782929241:Nat:=0
def PySem.W.Fast.tw35962931940938948:Nat:=0
def PySem.W.Fast.tw12461370283797874016:Nat:=0
def PySem.W.Fast.tw12453254289991369909:Nat:=0
def PySem.W.Fast.tw13895073195671601527:Nat:=0
def PySem.W.Fast.tw31092530745963629:Nat:=0
def PySem.W.Fast.tw11956204193468875389:Nat:=0
def PySem.W.Fast.tw9303165924842801443:Nat:=0
def PySem.W.Fast.tw5982742857041176454:Nat:=0
def PySem.W.Fast.tw6222957627453151098:Nat:=0
def PySem.W.Fast.tw15614168161290039243:Nat:=0
def PySem.W.Fast.tw12155389737216547583:Nat:=0
def PySem.W.Fast.tw4165063956773615207:Nat:=0
def PySem.W.Fast.tw10872124619086764309:Nat:=0
def PySem.W.Fast.tw16498478546395092878:Nat:=0
def PySem.W.Fast.tw4631749404797958447:Nat:=0
def PySem.W.Fast.tw5656791801969664333:Nat:=0
def PySem.W.Fast.tw6915613708149664455:Nat:=0
def PySem.W.Fast.tw10120970622042344295:Nat:=0
def PySem.W.Fast.tw2851566572275364197:Nat:=0
def PySem.W.Fast.tw641742926797704496:Nat:=0
def PySem.W.Fast.tw17325218874676455203:Nat:=0
def PySem.W.Fast.tw14413680980297205374:Nat:=0
def PySem.W.Fast.tw8445159686069500492:Nat:=0
def PySem.W.Fast.tw16301708781126037763:Nat:=0
def PySem.W.Fast.tw14789945493640715328:Nat:=0
def PySem.W.Fast.tw2298479651429021639:Nat:=0
def PySem.W.Fast.tw12049309666547763191:Nat:=0
def PySem.W.Fast.tw9475159817753411185:Nat:=0
def PySem.W.Fast.tw11279109115500723294:Nat:=0
def PySem.W.Fast.tw17443264793864165905:Nat:=0
def PySem.W.Fast.tw3073438591925521921:Nat:=0
def PySem.W.Fast.tw1886511824345824987:Nat:=0
def PySem.W.Fast.tw18262020302271188429:Nat:=0
def PySem.W.Fast.tw4851272284670975198:Nat:=0
def PySem.W.Fast.tw10600822327984134381:Nat:=0
def PySem.W.Fast.tw8385063309046662648:Nat:=0
def PySem.W.Fast.tw16339623078962036086:Nat:=0
def PySem.W.Fast.tw14840255419555098669:Nat:=0
def PySem.W.Fast.tw6883701508258381100:Nat:=0
def PySem.W.Fast.tw4792806625841167165:Nat:=0
def PySem.W.Fast.tw10694960800641978461:Nat:=0
def PySem.W.Fast.tw1611579416782706146:Nat:=0
def PySem.W.Fast.tw5630637537904785413:Nat:=0
def PySem.W.Fast.tw9752443277077692400:Nat:=0
def PySem.W.Fast.tw2926457955370385963:Nat:=0
def PySem.W.Fast.tw17991646071125860435:Nat:=0
def PySem.W.Fast.tw12537648444201938655:Nat:=0
def PySem.W.Fast.tw4849679411179402941:Nat:=0
def PySem.W.Fast.tw8211717183683867310:Nat:=0
def PySem.W.Fast.tw1711579629697866735:Nat:=0
def PySem.W.Fast.tw2327150899045315237:Nat:=0
def PySem.W.Fast.tw14260714243200619113:Nat:=0
def PySem.W.Fast.tw863383465674765283:Nat:=0
def PySem.W.Fast.tw13924950672723550143:Nat:=0
def PySem.W.Fast.tw14535009864050901628:Nat:=0
def PySem.W.Fast.tw16168116645827948370:Nat:=0
def PySem.W.Fast.tw1020562707679927386:Nat:=0
def PySem.W.Fast.tw16861936314756155416:Nat:=0
def PySem.W.Fast.tw19400162776469093:Nat:=0
def PySem.W.Fast.tw9927343150394074051:Nat:=0
def PySem.W.Fast.tw15890401561383925748:Nat:=0
def PySem.W.Fast.tw16408777009235184074:Nat:=0
def PySem.W.Fast.tw7288912227366671035:Nat:=0
def PySem.W.Fast.tw3604292183361402586:Nat:=0
def PySem.W.Fast.tw10791479723528541078:Nat:=0
def PySem.W.Fast.tw2424068072280174202:Nat:=0
def PySem.W.Fast.tw10588225913496865523:Nat:=0
def PySem.W.Fast.tw11979535627408062964:Nat:=0
def PySem.W.Fast.tw8969506094720637229:Nat:=0
def PySem.W.Fast.tw8240334747598347090:Nat:=0
def PySem.W.Fast.tw16881814360750873984:Nat:=0
def PySem.W.Fast.tw18336062270464244912:Nat:=0
def PySem.W.Fast.tw17134716629377643990:Nat:=0
def PySem.W.Fast.tw966804505647735892:Nat:=0
def PySem.W.Fast.tw3332157968593568118:Nat:=0
def PySem.W.Fast.tw10437481058010770969:Nat:=0
def PySem.W.Fast.tw415728292118612754:Nat:=0
def PySem.W.Fast.tw10768910598949167272:Nat:=0
def PySem.W.Fast.tw11505501508513298291:Nat:=0
def PySem.W.Fast.tw17976419522222811475:Nat:=0
def PySem.W.Fast.tw13087709837258176889:Nat:=0
def PySem.W.Fast.tw474041083156658316:Nat:=0
def PySem.W.Fast.tw6969979532925874386:Nat:=0
def PySem.W.Fast.tw9570290401688065523:Nat:=0
open PySem PySem.W PyProof.Rows
set_option maxRecDepth 100000 in
set_option maxHeartbeats 0 in
theorem PySem.Challenge.cw_ringfell_k02_webs_refused_holds : PySem.Challenge.rw_ringfell_k02_webs_refused.Holds := by
 w_on;o_law;k_head;(case hw=>w_witness2)
 k_fill
 refine K02.walk (l:=PySem.Challenge.rw_ringfell_k02_webs_refused) rfl rfl (λw h Y=>PySem.W.kIn_of Y) ?F
 case F =>
  intro w mg fa h KX G hmg
  refine' K02.all_mk KX G hmg ?_ ?_ ?_ ?_ ?_ ?_ ?_ ?_ ?_ ?_ ?_ ?_ ?_ ?_ ?_ ?_ ?_ ?_ ?_ ?_ ?_ ?_ ?_ ?_ ?_ ?_ ?_ ?_ ?_ ?_ ?_ ?_ ?_ ?_ ?_ ?_ ?_ ?_ ?_ ?_ ?_ ?_ ?_ ?_ ?_ ?_ ?_ ?_ ?_ ?_ ?_ ?_ ?_ ?_ ?_ ?_ ?_ ?_ ?_ ?_ ?_ ?_ ?_ ?_ ?_ ?_ ?_ ?_ ?_ ?_ ?_ ?_ ?_ ?_ ?_
  any_goals k_is
  any_goals (refine' L2.cg.mk ?a ?l ?c ?k;(case a=>k_is);(case l=>k_is);(case c=>k_is);(case k=>k_is))
  any_goals (with_reducible refine' L2.i3.mk ?i ?n ?l ?c ?k;(case i=>k_is);(case n=>k_is);(case l=>k_is);(case c=>k_is);(case k=>k_is))
  all_goals kernel_rfl
