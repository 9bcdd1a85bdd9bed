import PyProof.Rows.All
import Wide.All
import OpenK.AllK
import Wide.FinOn
import Lean
import PyProof.EqAt
import PyProof.EqKinds
import PyProof.TupleCall
import KE.KRevIter
import PySem.Challenge.RW_ringfell_k70_arrows_that_clear
open List renaming length_map → ue,getElem?_eq_some_iff → um,size_toArray → uu,length_append → uv,mem_singleton → uw,getElem?_eq_getElem → ux,mem_append → uC,getElem?_map → uF,mem_map → uH,take_of_length_le → uI,map_append → uJ,mem_of_getElem? → uS,mem_cons_self → uZ,mem_append_right → u5,mem_cons_of_mem → u6,mem_iff_getElem? → vf,map_cons → vg,length_cons → vh,take_add_one → vj,mem_cons → vn,append_assoc → vp,length_take → vx,range → vC,append_nil → vE,length_singleton → vF,extract_eq_take_drop → vH,drop_sublist → vK,pairwise_map → vL,take_sublist → vP,mem_append_left → vS,pairwise_append → vU,mem_range → vY,getElem?_set_self → v8,take_append_of_le_length → wc,take_append_drop → wg,nodup_cons → wj,getElem?_take → wm,getD_eq_getElem?_getD → wu,filterMap_cons → wx,getElem?_append_left → wA,pairwise_cons → wD,getElem?_drop → wF,length_drop → wI,getElem?_set_ne → wK,pairwise_singleton → wM,getElem?_cons_succ → wN,getElem?_append_right → wW,getElem?_toArray → w4,nodup_nil → w9,mem_of_mem_take → xf,filter_cons_of_pos → xv,filter_cons_of_neg → xw,filter_append → xE,perm_append_comm → xG,getElem?_eq_none → xI,length_range → xP,mem_of_mem_drop → xU,pairwise_iff_getElem → xY,lookup_cons → x6,reverse_append → yc,set_set → yf,mem_filter → yj,mem_filterMap → yk,getElem?_replicate → yl,nodup_append → yr,all_eq_true → yx,getElem_mem → yy,drop_append_of_le_length → yz,not_mem_nil → yB,countP_eq_length_filter → yF,length_nil → yI,nil_append → yJ,perm_ext_iff_of_nodup → yR,getElem?_zip_eq_some → yZ,drop_eq_getElem_cons → y6,drop_zero → y7,take_zero → y8,drop_left → y9,getElem?_take_of_lt → zg,flatten_cons → zk,find?_range_eq_none → zo,sublist_append_left → zw,any_cons → zA,eraseIdx_cons_succ → zB,length_eq_zero_iff → zC,perm_middle → zL,countP_cons → zM,drop_eq_nil_of_le → zR,pairwise_lt_range → zS,of_mem_zip → zV,length_replicate → zW,length_set → zX,contains_iff_mem → z4,length_filter_le → z6,reverse_reverse → Af,length_eraseIdx → Ag,count_cons_self → Ai,getElem?_range → Ap,getElem_of_mem → Aq,zip_cons_cons → AE,map_take → AF,map_drop → AG,ext_getElem? → AW,getElem?_inj → A0,countP_congr → A1,map_map → Be,nodup_range → Bl,foldl_cons → Bq,length_zip → Br,count_cons → Bv,countP_map → Bz,drop_drop → BF,take_succ → BH,replicate → BJ,all_cons → BR,set_comm → BS,map_nil → BZ
open PySem renaming wpAny_bind → uf,Value → ug,Shared → uj,wpAny_pure → uD,sizeLine → uL,Program → uM,mainGlobals → vb,model → vk,wpAny → vm,World → vt,Around → vz,FuncData → vD,starEach → vG,bootBuiltins → vJ,codeAny_builtin → vM,compareOp → wq,wpAny_holding → wB,wpAny_mono → wG,mem_of_lookup → wR,wpAny_truthy_bool → xo,wpAny_passesOwn → xp,plainId_quiet → xy,richCompare_meets_room → xD,wpAny_execs_nil → xJ,codeAny_mono → xK,wpAny_newObj_type → xQ,wpAny_loadPart_at → xR,codeAny_call_builtin → xV,wpAny_Call_Name_kw → yp,sizeLine_eq → yt,wpAny_call_entry → yD,wpAny_rule → yG,wpAny_updateSeq → yL,wpAny_typeOf → yU,wpAny_setField_rec → yV,backTo → yX,wpAny_runValue → ze,call_meets → zx,wpAny_newList → zG,codeAny → zJ,wpAny_execs_cons → zN,wpAny_forIn_list → zO,wpAny_askSetting → zP,wpAny_isTrue_Compare1 → z7,wpAny_eqIsQuiet_tuple → z8,codeAny_of_tree → z9,weight_type_call_type → Aa,holding → Ab,isSubtype_type → Ak,rawInt → Al,wpAny_setEntries_of → Av,wpAny_standAt → AL,wpAny_pyIter_tuple → AM,wpAny_eqBool_tuple → AO,wpAny_Assign_Name → Ba,wpAny_pyIter_list → Bb,wpAny_call → Bc,seqIndex_neg → Bf,seqIndex_of → BA,wpAny_Name → BO,wpAny_load → BP,numAt_eq → BX
open PySem.W renaming Frag → uh,nsIn → vq,mg_none_of → vy,mg_of → vW,kia_one → wa,hideAll_get → zI,cellsFrom_some → zQ,kat_nil → z3,callWith_K → Az,kitx_list → AR,kitx_dict → AS,looks_findIn → Bh
open Array renaming length_toList → uo,getElem?_toList → uz,getElem?_eq_getElem → u0,toList_append → vi,mem_toList_iff → vT,size_map → v3,toList_extract → v7,toList_push → wd,getD_eq_getD_getElem? → wo,getElem?_eq_some_iff → wt,toList_reverse → xc,size_push → xg,getElem?_eq_none → xC,size_append → xN,toList_inj → x9,toList_map → yA,toList_setIfInBounds → yP,perm_iff_toList_perm → yQ,size_setIfInBounds → zj,getElem?_replicate → zp,getElem_mem → zq,append_assoc → Ay,getElem?_map → AH,forIn_toList → AI
open PySem.Heap renaming get?_push_of_some → uq,lt_size → uO,get?_push_size → uU,get?_update_other → v9,get?_update_self → wX,size_push → yu,get?_update_ne → Ao
open Nat renaming le_refl → ur,lt_of_lt_of_le → uG,le_trans → vc,ne_of_lt → ve,zero_le → vv,lt_irrefl → wb,lt_succ_of_lt → wz,le_add_right → wJ,le_sub_one_of_lt → wL,zero_add → wY,le_of_lt → xq,add_sub_cancel_left → xt,eq_zero_of_not_pos → xB,le_succ_of_le → xM,le_of_lt_succ → xO,lt_succ_self → x8,lt_of_not_le → yb,ne_of_gt → ye,succ_pos → yg,le_antisymm → yn,mod_lt → yq,le_of_not_lt → yw,sub_one_lt_of_lt → yE,add_le_add_left → yK,lt_of_le_of_lt → yT,lt_of_succ_lt → zi,le_of_sub_eq_zero → z0,lt_of_le_of_ne → AD,sub_pos_of_lt → AU,le_of_succ_le → AV,min_self → Bd,succ_le_succ → Bk,log2_lt → Bp,mul_le_mul → BI,add_assoc → BU
open PyProof.Rows renaming wpS_bind → uE,Keyed → uK,wpS_pure → uN,arrOf → uT,pendingOf → va,SortSt → vd,wpS_forRange → vN,wpS_mono → wC,wpS_modify → wQ,IntsAre → xW,reverseSlice'_eq → yC,callWith_type1 → yH,KeyOrd → yW,wpS_get → zF,subscriptTail_builtinR → zU,wpS_lift → Ac,getElem?_mirror_all → Au,listUpdate_at → AN,listItems_at → Bg,size_push' → BQ,isInt_at → BW
open Bool renaming false_ne_true → uP,false_eq_true → uQ,and_eq_true → vZ,not_true → v5,eq_iff_iff → xF,false_and → yY,not_false → Aj,eq_false_iff → AX,and_false → BG,false_or → BV
open PySem.F renaming plainAttrs_list → uV,slot_list_append → vA,type_list_append → vB,called_set → vX,slot_list_index → wO,slot_list_remove → xh,type_list_index → xx,plain_extend_loop → yd,typeOf_object_class → yv,args_list_remove_2 → yS,entry_list_remove → zd,type_list_remove → zr,slot_list_insert → zt,type_list_insert → zu,slot_list_count → zE,typeCall_set_1 → zT,attrBase_ValueError → z5,excBase_ValueError → Ah,entry_extend_loop → As,slot_gs_get → AK,entry_type_call → AY,plain_list_iadd → AZ,entry_set_init → Bm,args_list_ne_2 → Bn,args_list_eq_2 → Bo,plain_set_new → Bs,slot_set_iter → Bt,entry_list_ne → Bw,entry_list_eq → Bx
open PySem.Value renaming ref → uW,none → xA,type → xS,int → xZ,isInt_shape → AQ
open PyProof.Rows.KeyOrd renaming kle_trans → vo,kle_of_klt → vQ,kle_refl → wk,kle_antisymm → An
open Option.some renaming inj → vw
open Classical renaming byContradiction → vI
open PySem.PassesOwn renaming never → vO
open Int renaming toNat_natCast → vR,emod_lt_of_pos → wZ,emod_nonneg → xH,fdiv_eq_ediv_of_nonneg → xT,fmod_eq_emod_of_nonneg → yO
open PySem.Around renaming under_plainId → vV,under_plain → AJ
open List.Perm renaming append_left → we,append_right → wV,refl → xX
open PySem.Obj renaming mapSeq → wH
open PySem.Builtin.List renaming listExtendWith → wU,listLengthHint → yM,listSameRef → zy
open Ne renaming symm → w6
open Iff renaming rfl → xk
open List.Nodup renaming length_le_of_subset → xr
open PyProof.Rows.F renaming plain_set_update_loop → xu,entry_set_update_loop → zD
open List.Pairwise renaming imp_of_mem → yh,imp → B4
open PySem.SeqAt renaming EqAt → yi,notIn_tupleAt → Am,notIn_listAt → AB,in_tupleAt → Bj
open PySem.SeqAt.EqAt renaming int_int → ym,same → zY,bool_bool → Ad,int_str → Aw,str_int → Ax,str_str → AA
open PySem.Code renaming quiet_builtin → yo
open PySem.Calls renaming Name_function_global → yN,call_function_entry → zc,evalArgs_plain → Ae
open Option renaming isSome_iff_exists → zf,map_some → zZ,getD_none → Bi
open PyProof renaming noPylong_of_log2 → zh
open List.Sublist renaming refl → zv
open PySem.Paired renaming length → zz
open PySem.AutoListH renaming list_insert_list_int_val_1 → zK
open PySem.EqMixed renaming eq_bool_str → BB,eq_str_bool → BC,ne_bool_str → BD,ne_str_bool → BE,eq_int_str → BK,eq_str_int → BL,ne_int_str → BM,ne_str_int → BN
open PySem.W.Looks renaming of_pure → B0
open PySem.W.KatTups renaming cons → B1
open PySem.Moved renaming trans → B2
open Prod renaming ext → B3
set_option Elab.async false
set_option linter.all false
set_option maxRecDepth 100000
namespace L2
open PySem PySem.Spec PyProof.Rows
abbrev Key:=Sum Int Str
def qF:Key->ug->Bool
 | .inl k,v=>Value.isInt k v
 | .inr x,v=>Value.isStrOf x v
def keyH (w:vt):Key->Int
 | .inl k=>hashInt k
 | .inr x=>hashStr w x
theorem aZ:∀{k:Key} {v:ug},qF k v=true->(∃i t,k=Sum.inl i/\v=xZ i t)\/(∃x t,k=Sum.inr x/\v=Value.str x t)
 | .inl i,v,h=>by
  obtain ⟨t,e⟩:=AQ (k:=i) (v:=v) h
  exact .inl ⟨i,t,rfl,e⟩
 | .inr x,v,h=>by
  obtain ⟨t,e⟩:=Value.isStrOf_shape (x:=x) (v:=v) h
  exact .inr ⟨x,t,rfl,e⟩
theorem qY (a b:Int):decide ((Sum.inl a:Key)=Sum.inl b)=(a == b):=by
 by_cases e:a=b
 ·subst e;simp
 ·have h:¬ (Sum.inl a:Key)=Sum.inl b:=λq=>e (Sum.inl.inj q)
  rw[decide_eq_false h]
  exact (beq_eq_false_iff_ne.mpr e).symm
theorem qZ (a b:Str):decide ((Sum.inr a:Key)=Sum.inr b)=decide (a=b):=by
 by_cases e:a=b
 ·subst e;simp
 ·have h:¬ (Sum.inr a:Key)=Sum.inr b:=λq=>e (Sum.inr.inj q)
  rw[decide_eq_false h,decide_eq_false e]
theorem q8 (a:Int)(b:Str):decide ((Sum.inl a:Key)=Sum.inr b)=false:=decide_eq_false (λq=>nomatch q)
theorem q9 (a:Str)(b:Int):decide ((Sum.inr a:Key)=Sum.inl b)=false:=decide_eq_false (λq=>nomatch q)
def i4 (prog:uM)(w:vt):PySem.KeyKind prog w Key where
 is:=qF
 hash:=keyH w
 inj:=λv a b ha hb=>by
  rcases aZ ha with ⟨i,t,rfl,rfl⟩ | ⟨x,t,rfl,rfl⟩
  ·rcases aZ hb with ⟨j,u,rfl,e⟩ | ⟨y,u,rfl,e⟩
   ·injection e with e1 _;rw[e1]
   ·exact nomatch e
  ·rcases aZ hb with ⟨j,u,rfl,e⟩ | ⟨y,u,rfl,e⟩
   ·exact nomatch e
   ·injection e with e1 _;rw[e1]
 byValue:=λk v h=>by
  rcases aZ h with ⟨i,t,rfl,rfl⟩ | ⟨x,t,rfl,rfl⟩ <;> rfl
 pyHash:=λhv h=>by
  rcases aZ hv with ⟨i,t,rfl,rfl⟩ | ⟨x,t,rfl,rfl⟩
  ·exact wpAny_pyHash_int h
  ·exact wpAny_pyHash_str h
 eqBool:=λhu hv h=>by
  rcases aZ hu with ⟨i,t,rfl,rfl⟩ | ⟨x,t,rfl,rfl⟩
  ·rcases aZ hv with ⟨j,u,rfl,rfl⟩ | ⟨y,u,rfl,rfl⟩
   ·rw[qY] at h;exact wpAny_eqBool_int h
   ·rw[q8] at h;exact Aw i t y u _ _ _ _ h
  ·rcases aZ hv with ⟨j,u,rfl,rfl⟩ | ⟨y,u,rfl,rfl⟩
   ·rw[q9] at h;exact Ax x t j u _ _ _ _ h
   ·rw[qZ] at h;exact wpAny_eqBool_str h
 «strs» := λk x t v h=>by
  rcases aZ h with ⟨i,u,rfl,e⟩ | ⟨y,u,rfl,e⟩
  ·exact nomatch e
  ·injection e with e1 _
   subst e1
   cases v <;> rfl
open PySem PySem.Spec PyProof.Rows
inductive V where
 | non | bl (b:Bool) | int (i:Int) | str (x:Str) | byt (b:Array UInt8) | flt (b:UInt64) | ref (a:Addr) | ty (n:String)
 deriving DecidableEq
def RelV:V->ug->Prop
 | .non,u=>u=xA
 | .bl b,u=>u=Value.bool b
 | .int i,u=>∃t,u=xZ i t
 | .str x,u=>∃t,u=Value.str x t
 | .byt b,u=>∃t,u=Value.bytes b t
 | .flt b,u=>∃t,u=Value.float b t
 | .ref a,u=>u=uW a
 | .ty n,u=>u=xS n
abbrev Vals:List V->List ug->Prop:=Paired RelV
theorem Vals.length {xs:List V}{us:List ug}(r:Vals xs us):xs.length=us.length:=zz r
theorem Vals.get:∀{xs:List V} {us:List ug} {i:Nat} {x:V},Vals xs us->xs[i]? = some x->∃u,us[i]? = some u/\RelV x u
 | _,_,_,_,.nil,e=>by simp at e
 | _,_,0,_,.cons r _,e=>by simp at e;subst e;exact ⟨_,rfl,r⟩
 | _,_,i+1,x,.cons _ t,e=>by
  obtain ⟨u,h1,h2⟩:=Vals.get (i:=i) (x:=x) t (by simpa using e)
  exact ⟨u,by simpa using h1,h2⟩
theorem Vals.set {x:V}{u:ug}(r:RelV x u):∀{xs:List V} {us:List ug} (i:Nat),Vals xs us->Vals (xs.set i x) (us.set i u)
 | _,_,_,.nil =>.nil
 | _,_,0,.cons _ t =>.cons r t
 | _,_,i+1,.cons q t =>.cons q (Vals.set r i t)
theorem Vals.append:∀{xs ys:List V} {us ws:List ug},Vals xs us->Vals ys ws->Vals (xs++ys) (us++ws)
 | _,_,_,_,.nil,s=>s
 | _,_,_,_,.cons r t,s =>.cons r (Vals.append t s)
theorem Vals.take:∀{xs:List V} {us:List ug} (n:Nat),Vals xs us->Vals (xs.take n) (us.take n)
 | _,_,0,_ =>.nil
 | _,_,_+1,.nil =>.nil
 | _,_,n+1,.cons r t =>.cons r (Vals.take n t)
theorem Vals.drop:∀{xs:List V} {us:List ug} (n:Nat),Vals xs us->Vals (xs.drop n) (us.drop n)
 | _,_,0,r=>r
 | _,_,_+1,.nil =>.nil
 | _,_,n+1,.cons _ t=>Vals.drop n t
def rd:Option V->Option ug->Prop
 | some v,some u=>RelV v u
 | none,none=>True
 | _,_=>False
def KV {κ:Type}:List (κ×V)->List (κ×ug)->Prop:=Paired λ(p:κ×V) (q:κ×ug)=>p.1=q.1/\RelV p.2 q.2
def kV:Key->V
 | .inl i =>.int i
 | .inr x =>.str x
inductive HO where
  | lst (xs:List V)
  | tup (xs:List V)
  | dK (kvs:List (Key×V)) | dT (kvs:List (List Key×V))
  | set (S:Int->Bool) (n:Nat)
  | ins (C dx:Addr) (fs:List (Str×V))
  | own (x:Addr)
  | xd (fs:List (Str×V))
  | met (f x:Addr)
  | rng (lo hi:Int)
  | frz (o:Obj) (u:HO)
  | tbl (ps:Array ug)
  | ext (φ:Heap->Prop)
abbrev Hp:=Addr->Option HO
def upd (H:Hp)(a:Addr)(o:HO):Hp:=λb=>if b=a then some o else H b
theorem ag {H:Hp}{a:Addr}{o:HO}:upd H a o a=some o:=by unfold upd;rw[if_pos rfl]
theorem ak {H:Hp}{a b:Addr}{o:HO}(h:b≠a):upd H a o b=H b:=by unfold upd;rw[if_neg h]
theorem nC {H:Hp}{a b:Addr}{o u:HO}(h:H a=some o)(h':H b=some u)(d:o≠u):a≠b:=by
 intro e;subst e;rw[h] at h';exact d (vw h')
theorem aq {H:Hp}{a b:Addr}{o:HO}(h:H a=some o)(h':H b=none):a≠b:=by
 intro e;subst e;rw[h] at h';cases h'
def d7 (h:Heap)(a:Addr)(items:Array ug):Prop:=∃o,h.get? a=some o/\(o.cls = .type "tuple" /\ o.dict=none)/\∃n,o.data = .seq items n
theorem d7.tup {h:Heap}{a:Addr}{items:Array ug}(x:d7 h a items):IsTup h a items:=let ⟨o,e,c,n,d⟩:=x;⟨o,e,c.1,n,d⟩
theorem d7.new (h:Heap)(items:Array ug):d7 (h.push { cls :=.type "tuple",data :=.seq items }) h.objs.size items:=⟨_,uU _ rfl,⟨rfl,rfl⟩,_,rfl⟩
section
variable  (P:uM)(w:vt)
def bp (H:Hp)(h:Heap)(a:Addr):HO->Prop
 | .lst xs=>xs.length<=uL/\∃(its:List ug) (n:Nat),Vals xs its/\h.get? a=some { cls :=.type "list",data :=.seq its.toArray n }
 | .tup xs=>xs.length<=uL/\∃its:List ug,Vals xs its/\d7 h a its.toArray
 | .dK kvs=>kvs.length<=uL/\(a == sysModules)=false/\∃vs,KV kvs vs/\h.DictOf (i4 P w) a vs
 | .dT kvs=>kvs.length<=uL/\(a == sysModules)=false/\∃xs:List (List Key×Addr×ug),
   Paired (λ(p:List Key×V) (q:List Key×Addr×ug)=>p.1=q.1/\H q.2.1=some (.tup (p.1.map kV))/\RelV p.2 q.2.2) kvs xs ∧
   ∃o es ep,h.get? a=some o/\o.ExactDict/\o.data = .dict es ep/\es.toList=xs.map (entryOfKey (tupleKind (i4 P w)))/\(xs.map (·.1)).Nodup
 | .set S n=>h.SetOf (intKind P w) a S n
 | .ins C dx fs=>H dx=some (.own a)/\fs.length<=1000/\dx≠a/\h.get? a=some (PySem.W.instObj C dx) ∧
   ∃mA,h.Ns1 dx mA/\(∀f,rd (fs.lookup f) (mA f))/\PySem.Within mA (fs.map (·.1))
 | .own _=>∃o,h.get? a=some o
 | .xd fs=>∃mA,h.Ns1 a mA/\∀f,rd (fs.lookup f) (mA f)
 | .rng lo hi=>∃t u v,h.get? a=some { cls :=.type "range",data :=.fields #[.int lo t,.int hi u,.int 1 v] }
 | .frz o u=>h.get? a=some o/\bp H h a u
 | .tbl ps=>h.get? a=some { cls :=.none,data :=.fields ps }
 | .met f x=>h.get? a=some (PySem.W.methodObj (.ref f) (.ref x))
 | .ext φ=>φ h/\(∃o,h.get? a=some o)/\∀h1 h2:Heap, φ h1->(∀o,h1.get? a=some o->h2.get? a=some o) -> φ h2
def HOk (H:Hp)(h:Heap):Prop:=∀a o,H a=some o->bp P w H h a o
end
section
variable  {P:uM}{w:vt}{H H':Hp}{h h':Heap}{a:Addr}{o:HO}
theorem bp.lt (x:bp P w H h a o):a<h.objs.size:=by
 cases o with
 | lst xs=>obtain ⟨_,_,_,_,e⟩:=x;exact uO e
 | tup xs=>obtain ⟨_,_,_,p⟩:=x;exact (d7.tup p).lt
 | dK kvs=>obtain ⟨_,_,_,_,o,_,_,e,_⟩:=x;exact uO e
 | dT kvs=>obtain ⟨_,_,_,_,o,_,_,e,_⟩:=x;exact uO e
 | set S n=>obtain ⟨o,_,_,_,e,_⟩:=x;exact uO e
 | ins C dx fs=>obtain ⟨_,_,_,e,_⟩:=x;exact uO e
 | own y=>obtain ⟨_,e⟩:=x;exact uO e
 | xd fs=>obtain ⟨_,⟨_,_,_,e,_⟩,_⟩:=x;exact uO e
 | rng lo hi=>obtain ⟨_,_,_,e⟩:=x;exact uO e
 | frz ob u=>obtain ⟨e,_⟩:=x;exact uO e
 | tbl ps=>exact uO (show h.get? a=some _ from x)
 | met f y=>exact uO (show h.get? a=some _ from x)
 | ext φ=>obtain ⟨_,⟨_,e⟩,_⟩:=x;exact uO e
theorem Paired.sM {α β:Type}{F G:α -> β -> Prop}:∀{l₁:List α} {l₂:List β},Paired F l₁ l₂->(∀a b,F a b->G a b)->Paired G l₁ l₂
 | _,_,.nil,_ =>.nil
 | _,_,.cons r t,f =>.cons (f _ _ r) (Paired.sM t f)
theorem bp.stay (x:bp P w H h a o)(k:∀b u,(b=a\/H b=some (.own a))->h.get? b=some u->h'.get? b=some u)
  (ho:∀b,H b=some (.own a)->H' b=some (.own a)) (ht:∀b xs,H b=some (.tup xs)->H' b=some (.tup xs)):bp P w H' h' a o:=by
 induction o with
 | lst xs=>obtain ⟨z,its,n,r,e⟩:=x;exact ⟨z,its,n,r,k _ _ (.inl rfl) e⟩
 | tup xs=>obtain ⟨z,its,r,ob,e,c⟩:=x;exact ⟨z,its,r,ob,k _ _ (.inl rfl) e,c⟩
 | dK kvs=>obtain ⟨z,y,vs,r,ob,es,ep,e,c⟩:=x;exact ⟨z,y,vs,r,ob,es,ep,k _ _ (.inl rfl) e,c⟩
 | dT kvs =>
  obtain ⟨z,y,xs,r,ob,es,ep,e,c⟩:=x
  exact ⟨z,y,xs,Paired.sM r λp q z=>⟨z.1,ht _ _ z.2.1,z.2.2⟩,ob,es,ep,k _ _ (.inl rfl) e,c⟩
 | set S n=>obtain ⟨ob,es,ep,t,e,c⟩:=x;exact ⟨ob,es,ep,t,k _ _ (.inl rfl) e,c⟩
 | ins C dx fs =>
  obtain ⟨d,z,ne,e,mA,⟨od,es,ep,e2,c⟩,r⟩:=x
  exact ⟨ho _ d,z,ne,k _ _ (.inl rfl) e,mA,⟨od,es,ep,k _ _ (.inr d) e2,c⟩,r⟩
 | own y=>obtain ⟨ob,e⟩:=x;exact ⟨ob,k _ _ (.inl rfl) e⟩
 | xd fs=>obtain ⟨mA,⟨od,es,ep,e,c⟩,r⟩:=x;exact ⟨mA,⟨od,es,ep,k _ _ (.inl rfl) e,c⟩,r⟩
 | rng lo hi=>obtain ⟨t,u,v,e⟩:=x;exact ⟨t,u,v,k _ _ (.inl rfl) e⟩
 | frz ob u ih=>obtain ⟨e,q⟩:=x;exact ⟨k _ _ (.inl rfl) e,ih q⟩
 | tbl ps =>
  have e:h.get? a=some { cls :=.none,data :=.fields ps }:=x
  show h'.get? a=some { cls :=.none,data :=.fields ps }
  exact k a _ (.inl rfl) e
 | met f y =>
  have e:h.get? a=some (PySem.W.methodObj (.ref f) (.ref y)):=x
  show h'.get? a=some (PySem.W.methodObj (.ref f) (.ref y))
  exact k a _ (.inl rfl) e
 | ext φ=>obtain ⟨p,⟨o,e⟩,st⟩:=x;exact ⟨st _ _ p λo q=>k _ _ (.inl rfl) q,⟨o,k _ _ (.inl rfl) e⟩,st⟩
theorem HOk.lt (x:HOk P w H h)(e:H a=some o):a<h.objs.size:=(x a o e).lt
theorem HOk.fresh (x:HOk P w H h)(e:h.objs.size<=a):H a=none:=by
 cases q:H a with
 | none=>rfl
 | some u=>exact absurd (uG (x.lt q) e) (wb _)
theorem HOk.kept (x:HOk P w H h)(k:∀b u,h.get? b=some u->h'.get? b=some u):HOk P w H h':=λa o e =>
 (x a o e).stay (λb u _ q=>k b u q) (λ_ q=>q) λ_ _ q=>q
theorem HOk.laid (x:HOk P w H h)(k:∀b u,h.get? b=some u->h'.get? b=some u)(hp:h.objs.size<=a)(new:bp P w (upd H a o) h' a o):HOk P w (upd H a o) h':=λb u e=>by
 have hn:=x.fresh hp
 by_cases hb:b=a
 ·subst hb;rw[ag] at e;cases e;exact new
 ·rw[ak hb] at e
  exact (x b u e).stay (λc v _ q=>k c v q) (λc q=>by rw[ak (aq q hn)];exact q) λc xs q=>by rw[ak (aq q hn)];exact q
end
def Rd (H:Hp)(a:Addr)(u:HO):Prop:=H a=some u\/∃o,H a=some (.frz o u)
theorem Rd.ok {P:uM}{w:vt}{H:Hp}{h:Heap}{a:Addr}{u:HO}(r:Rd H a u)(x:HOk P w H h):bp P w H h a u:=by
 rcases r with r | ⟨o,r⟩
 ·exact x a u r
 ·obtain ⟨_,q⟩:=x a _ r
  exact q
def Mut:Option HO->Prop
 | some (.lst _)=>True
 | some (.dK _)=>True
 | some (.dT _)=>True
 | some (.set _ _)=>True
 | some (.ins _ _ _)=>True
 | some (.ext _)=>True
 | _=>False
section
variable  {P:uM}{w:vt}{H:Hp}{h h':Heap}{x e:Addr}{o':HO}
theorem HOk.write (ok:HOk P w H h)(mu:Mut (H x))(he:e=x\/H e=some (.own x))(k:∀b u,b≠e->h.get? b=some u->h'.get? b=some u)(heo:∃u,h'.get? e=some u)
  (new:bp P w (upd H x o') h' x o'):HOk P w (upd H x o') h':=λb u q=>by
 have nown:∀c y,H c=some (.own y)->c≠x:=λc y r z=>by subst z;rw[r] at mu;exact mu
 have ntup:∀c xs,H c=some (.tup xs)->c≠x:=λc xs r z=>by subst z;rw[r] at mu;exact mu
 by_cases hb:b=x
 ·subst hb;rw[ag] at q;cases q;exact new
 ·rw[ak hb] at q
  by_cases hbe:b=e
  ·have q':H b=some (.own x):=by
    rcases he with z | z
    ·exact absurd (hbe.trans z) hb
    ·rw[hbe];exact z
   rw[q] at q';cases q'
   obtain ⟨v,hv⟩:=heo
   exact ⟨v,by rw[hbe];exact hv⟩
  ·refine (ok b u q).stay (λc v hc r=>k c v ?_ r) (λc r=>by rw[ak (nown c b r)];exact r) λc xs r=>by rw[ak (ntup c xs r)];exact r
   rcases hc with rfl | hc
   ·exact hbe
   ·rintro rfl
    rcases he with z | z
    ·exact nown c b hc z
    ·rw[hc] at z;cases z;exact hb rfl
end
structure Un (fs ex:List Addr)(H H':Hp)(h h':Heap):Prop where
 keep:∀b o,h.get? b=some o->H b=none->b∉fs->b∉ex->h'.get? b=some o
 slot:∀b o,h.get? b=some o->H b=none->b∈fs->b∉ex->∃sl,h'.get? b=some { o with slots:=sl }
 free:∀b o,h.get? b=some o->H b=none->b∉ex->H' b=none
 there:∀b o,h.get? b=some o->b∉ex->∃o',h'.get? b=some o'
 tups:∀b xs,H b=some (.tup xs)->H' b=some (.tup xs)
 frzs:∀b o u,H b=some (.frz o u)->H' b=some (.frz o u)
 tbls:∀b ps,H b=some (.tbl ps)->∃more,H' b=some (.tbl (ps++more))
section
variable  {fs fs' ex ex':List Addr}{H H1 H2:Hp}{h h1 h2 h':Heap}{a x e:Addr}{o:HO}
theorem Un.any (u:Un fs ex H H1 h h1){b:Addr}{ob:Obj}(q:h.get? b=some ob)(n:H b=none)(hx:b∉ex):∃sl,h1.get? b=some { ob with slots:=sl }:=by
 by_cases hb:b∈fs
 ·exact u.slot b ob q n hb hx
 ·exact ⟨ob.slots,u.keep b ob q n hb hx⟩
theorem Un.kept (k:∀b u,h.get? b=some u->h'.get? b=some u):Un fs ex H H h h' :=
 ⟨λb ob q _ _ _=>k b ob q,λb ob q _ _ _=>⟨ob.slots,k b ob q⟩,λ_ _ _ n _=>n,λb ob q _=>⟨ob,k b ob q⟩,λ_ _ q=>q,λ_ _ _ q=>q,λ_ ps q=>⟨#[],by rw[q];simp⟩⟩
theorem Un.refl:Un fs ex H H h h:=Un.kept λ_ _ q=>q
theorem Un.laid (k:∀b u,h.get? b=some u->h'.get? b=some u)(hp:h.objs.size<=a)(hn:H a=none):Un fs ex H (upd H a o) h h' where
 keep:=λb u q _ _ _=>k b u q
 slot:=λb u q _ _ _=>⟨u.slots,k b u q⟩
 free:=λb u q n _=>by rw[ak (ve (uG (uO q) hp))];exact n
 there:=λb u q _=>⟨u,k b u q⟩
 tups:=λb xs q=>by rw[ak (aq q hn)];exact q
 frzs:=λb u xs q=>by rw[ak (aq q hn)];exact q
 tbls:=λb ps q=>⟨#[],by rw[ak (aq q hn),q];simp⟩
theorem Un.write (mu:Mut (H x))(he:e=x\/H e=some (.own x))(k:∀b u,b≠e->h.get? b=some u->h'.get? b=some u)(heo:∃u,h'.get? e=some u):Un fs ex H (upd H x o) h h':=by
 have hx:∀b,H b=none->b≠x:=λb n z=>by subst z;rw[n] at mu;exact mu
 have hb:∀b,H b=none->b≠e:=λb n z=>by
  subst z
  rcases he with r | r
  ·exact hx b n r
  ·rw[n] at r;cases r
 have hm:∀b u,H b=some u->¬ Mut (some u)->b≠x:=λb u q nm z=>by subst z;rw[q] at mu;exact nm mu
 refine ⟨λb u q n _ _=>k b u (hb b n) q,λb u q n _ _=>⟨u.slots,k b u (hb b n) q⟩,λb u q n _=>by rw[ak (hx b n)];exact n,λb u q _ =>?_,
  λb xs q=>by rw[ak (hm b _ q λz=>z)];exact q,λb u xs q=>by rw[ak (hm b _ q λz=>z)];exact q,λb ps q=>⟨#[],by rw[ak (hm b _ q λz=>z),q];simp⟩⟩
 by_cases hbe:b=e
 ·subst hbe;exact heo
 ·exact ⟨u,k b u hbe q⟩
end
def trk (h:Heap)(H:Hp):List Addr:=(vC h.objs.size).filter λa=>(H a).isSome
def i5 (h:Heap)(H:Hp):Heap:=PySem.W.hideAll h (trk h H)
theorem mn (h:Heap)(H:Hp):(i5 h H).objs.size=h.objs.size:=PySem.W.hideAll_size _ _
theorem nD {h:Heap}{H:Hp}{b:Addr}{o:Obj}(e:h.get? b=some o)(n:H b=none):(i5 h H).get? b=some o :=
 PySem.W.hideAll_get _ e λhm=>by
  have q:(H b).isSome=true:=(yj.mp hm).2
  rw[n] at q;simp at q
theorem o8 {h:Heap}{H:Hp}{b:Addr}{o:Obj}(e:(i5 h H).get? b=some o):h.get? b=some o/\H b=none:=by
 have e':h.get? b=some o:=PySem.W.of_hideAll (trk h H) e
 refine ⟨e',?_⟩
 cases q:H b with
 | none=>rfl
 | some x =>
  have hm:b∈trk h H:=yj.mpr ⟨vY.mpr (uO e'),by simp[q]⟩
  have z:(i5 h H).get? b=none:=PySem.W.hideAll_none (trk h H) hm
  rw[z] at e;cases e
def o9 (g h:Heap)(L:Addr):List (Addr×Obj):=(vC h.objs.size).filterMap λa=>if a=L\/(g.get? a).isSome=true then none else (h.get? a).map λo=>(a,o)
def rest (g h:Heap)(L d:Addr):List (Addr×Obj):=(o9 g h L).filter λp=>decide (p.1≠d)
open PySem PySem.Spec PyProof.Rows
structure Mod (K:uh)(mg:Str->Option ug)(base:Heap):Prop where
 kin:K.In base
 glob:base.Ns vb mg
 blt:∃mb,base.Ns builtinsNs mb/\∀x:Str,x ≠ "__name__" -> mb x=vJ x
 nolimit:base.NoLimit
structure Cx where
 prog:uM
 w:vt
 K:uh
 mg:Str->Option ug
 base:Heap
 A:vz
 N:List Str
 s₀:uj
 H₀:Hp
 env:Env
 outer:List Env
 stack:List Env
 ex:List Addr
 fn:Str->Bool
 calm:Bool
 pn:List (Addr×Obj)
 xe:ug->uj->Prop
def frs (l:List Env):List Addr:=l.filterMap (·.frame)
abbrev Cx.fs (X:Cx):List Addr:=frs X.outer
def Vis (sc:Scope)(x:Str):Prop:=sc.names.lookup x=some .local\/sc.names.lookup x=some .cell\/sc.names.lookup x=some .free
def Loc (sc:Scope)(x:Str):Prop:=sc.names.lookup x=some .local\/sc.names.lookup x=some .cell
def Look (env:Env)(h:Heap)(m:Str->Option ug)(x:Str)(u:ug):Prop :=
 (env.kindOf x=some .local/\m x=some u)\/((env.kindOf x=some .cell\/env.kindOf x=some .free)/\∃c,env.cells.lookup x=some c/\h.IsCell c (some u))
structure Cx.Ok (X:Cx):Prop where
 mod:Mod X.K X.mg X.base
 kind:X.env.scope.kind = .function
 glob:X.env.globals=vb
 blt:X.env.builtins=builtinsNs
 above:X.s₀.heap.objs.size<=X.env.locals
 inj:∀x y c,X.env.cells.lookup x=some c->X.env.cells.lookup y=some c->x=y
 has:∀x,(X.env.kindOf x=some .cell\/X.env.kindOf x=some .free)->∃c,X.env.cells.lookup x=some c
 cab:∀x c,X.fn x=true->X.env.cells.lookup x=some c->X.s₀.heap.objs.size<=c
 hd:X.calm=true->X.A.handled=none
 frames:X.A.frames=some X.stack
 stk:X.stack=X.outer\/(X.stack=X.env :: X.outer/\X.env.frame=some X.env.locals)
 exf:∀b∈X.ex,b≠X.env.locals/\∀x c,X.env.cells.lookup x=some c->c≠b
 bs:∀b o,X.base.get? b=some o->X.s₀.heap.get? b=some o/\X.H₀ b=none
 bsz:X.base.objs.size<=X.s₀.heap.objs.size
 noex:∀b o,X.base.get? b=some o->b∉X.ex
 exfs:∀b∈X.ex,b∉X.fs
 funs:X.s₀.heap.FunFrames X.base X.outer
 frf:∀b∈X.fs,X.H₀ b=none
structure Inv (X:Cx)(pins:List (Addr×Obj))(σ:List (Option V))(H:Hp)(s:uj):Prop where
 ok:X.Ok
 os:s.os=X.s₀.os
 bare:AllBare s.gens
 base:Un X.fs X.ex X.H₀ H X.s₀.heap s.heap
 loc:∃m,s.heap.Ns X.env.locals m/\∀(i:Nat) (x:Str) (v:V),X.N[i]? = some x->σ[i]? = some (some v)->Vis X.env.scope x->∃u,RelV v u/\Look X.env s.heap m x u
 cell:∀x c,X.env.cells.lookup x=some c->∃v,s.heap.IsCell c v
 free:H X.env.locals=none
 freeC:∀x c,X.env.cells.lookup x=some c->H c=none
 pin:∀p∈X.pn++pins,s.heap.get? p.1=some p.2/\H p.1=none/\p.1≠X.env.locals/\p.1∉X.fs/\∀v,p.2.data ≠ .cell v
 hok:HOk X.prog X.w H s.heap
 len:σ.length=X.N.length
section
variable  {X:Cx}{pins:List (Addr×Obj)}{σ:List (Option V)}{H H':Hp}{s:uj}{h':Heap}
theorem Cx.Ok.nofr (ok:X.Ok){b:Addr}{o:Obj}(e:X.base.get? b=some o):b∉X.fs:=λhb=>by
 have:=(ok.funs.mem hb).1
 rw[e] at this;cases this
theorem Inv.bs (I:Inv X pins σ H s):∀b o,X.base.get? b=some o->s.heap.get? b=some o/\H b=none:=λb o e =>
 ⟨I.base.keep b o (I.ok.bs b o e).1 (I.ok.bs b o e).2 (I.ok.nofr e) (I.ok.noex b o e),I.base.free b o (I.ok.bs b o e).1 (I.ok.bs b o e).2 (I.ok.noex b o e)⟩
theorem Inv.bk (I:Inv X pins σ H s):∀b o,X.base.get? b=some o->s.heap.get? b=some o:=λb o e=>(I.bs b o e).1
theorem Inv.mod (I:Inv X pins σ H s):Mod X.K X.mg X.base:=I.ok.mod
theorem Inv.kIn (I:Inv X pins σ H s):X.K.In s.heap:=I.ok.mod.kin.keeps I.bk
theorem Inv.lt (I:Inv X pins σ H s):X.env.locals<s.heap.objs.size:=let ⟨_,hn,_⟩:=I.loc;hn.lt
theorem Inv.sz (I:Inv X pins σ H s):X.s₀.heap.objs.size<=s.heap.objs.size:=vc I.ok.above (xq I.lt)
theorem Inv.rf (I:Inv X pins σ H s){a:Addr}(h:s.heap.objs.size<=a):a∉X.fs:=λhb=>by
 obtain ⟨_,o,ho,_⟩:=I.ok.funs.mem hb
 exact absurd (uG (uO ho) (vc I.sz h)) (wb _)
theorem Inv.cne (I:Inv X pins σ H s):∀x c,X.env.cells.lookup x=some c->c≠X.env.locals:=λx c e z=>by
 obtain ⟨v,o,ho,hd⟩:=I.cell x c e
 obtain ⟨m,⟨o',es,ep,ho',hd',_⟩,_⟩:=I.loc
 rw[z,ho'] at ho;cases ho;rw[hd'] at hd;cases hd
theorem Inv.funs (I:Inv X pins σ H s):s.heap.FunFrames X.base X.outer:=by
 have all:∀(l:List Env),(∀b∈frs l,b∈X.fs)->X.s₀.heap.FunFrames X.base l->s.heap.FunFrames X.base l:=by
  intro l
  induction l with
  | nil=>intro _ _;trivial
  | cons env r ih =>
   intro hs hl
   obtain ⟨hk,⟨L,o,hf,hn,ho,hd⟩,hr⟩:=hl
   have hL:L∈X.fs:=hs L (by unfold frs;rw[wx,hf];exact uZ)
   obtain ⟨sl,e⟩:=I.base.slot L o ho (I.ok.frf L hL) hL λz=>I.ok.exfs L z hL
   exact ⟨hk,⟨L,_,hf,hn,e,hd⟩,ih (λb hb=>hs b (by unfold frs;rw[wx,hf];exact u6 _ hb)) hr⟩
 exact all X.outer (λ_ hb=>hb) I.ok.funs
theorem Inv.stack (I:Inv X pins σ H s):s.heap.FunFrames X.base X.stack:=by
 rcases I.ok.stk with e | ⟨e,hf⟩
 ·rw[e];exact I.funs
 ·rw[e]
  obtain ⟨m,hn,_⟩:=I.loc
  refine .cons (by rw[I.ok.kind];decide) hf hn ?_ I.funs
  exact Heap.get?_none_of_le (vc I.ok.bsz I.ok.above)
theorem Inv.i6 (I:Inv X pins σ H s):∀b∈frs X.stack,b∈X.env.locals :: X.fs:=λb hb=>by
 rcases I.ok.stk with e | ⟨e,hf⟩
 ·rw[e] at hb;exact u6 _ hb
 ·rw[e] at hb
  unfold frs at hb
  rw[wx,hf] at hb
  exact hb
theorem Inv.i7 (I:Inv X pins σ H s):∀b∈frs X.stack,H b=none:=λb hb=>by
 rcases vn.mp (I.i6 b hb) with e | hb
 ·rw[e];exact I.free
 ·obtain ⟨_,o,ho,_⟩:=I.ok.funs.mem hb
  exact I.base.free b o ho (I.ok.frf b hb) λz=>I.ok.exfs b z hb
theorem Inv.step {g':Array GenState}{t':Nat}{d':Drawn}{ch:List Addr}(I:Inv X pins σ H s)
  (hch:∀b∈ch,(b∈X.ex\/X.s₀.heap.objs.size<=b)/\b≠X.env.locals/\(∀x c,X.env.cells.lookup x=some c->c≠b)/\∀p∈X.pn++pins,p.1≠b)
  (keep:∀b o,b≠X.env.locals->b∉X.fs->b∉ch->s.heap.get? b=some o->H b=none->h'.get? b=some o)
  (slot:∀b o,b≠X.env.locals->b∈X.fs->b∉ch->s.heap.get? b=some o->H b=none->∃sl,h'.get? b=some { o with slots:=sl }) (free:∀b o,b∉ch->s.heap.get? b=some o->H b=none->H' b=none)
  (there:∀b o,b∉ch->s.heap.get? b=some o->∃o',h'.get? b=some o')
  (tups:∀b xs,H b=some (.tup xs)->H' b=some (.tup xs)) (frzs:∀b o u,H b=some (.frz o u)->H' b=some (.frz o u)) (tbls:∀b ps,H b=some (.tbl ps)->∃more,H' b=some (.tbl (ps++more)))
  (ns:∀m,s.heap.Ns X.env.locals m->h'.Ns X.env.locals m) (hok:HOk X.prog X.w H' h') (hg:AllBare g') :
  Inv X pins σ H' { s with heap:=h',gens:=g',drawn:=d',toks:=t' }:=by
 have neL:∀b o,X.s₀.heap.get? b=some o->b≠X.env.locals:=λb o e=>ve (uG (uO e) I.ok.above)
 have neC:∀b o,X.s₀.heap.get? b=some o->b∉X.ex->b∉ch:=λb o e hx hb=>by
  rcases (hch b hb).1 with z | z
  ·exact hx z
  ·exact absurd (uG (uO e) z) (wb _)
 have cellK:∀x c,X.env.cells.lookup x=some c->∀v,s.heap.IsCell c v->h'.IsCell c v:=λx c e v ⟨o,ho,hd⟩=>by
  have nch:c∉ch:=λz=>(hch c z).2.2.1 x c e rfl
  by_cases hc:c∈X.fs
  ·obtain ⟨sl,q⟩:=slot c o (I.cne x c e) hc nch ho (I.freeC x c e)
   exact ⟨_,q,hd⟩
  ·exact ⟨o,keep c o (I.cne x c e) hc nch ho (I.freeC x c e),hd⟩
 refine ⟨I.ok,I.os,hg,⟨λb o e n hb hx =>?_,λb o e n hb hx =>?_,λb o e n hx =>?_,λb o e hx =>?_,λb xs e=>tups b xs (I.base.tups b xs e),λb o xs e=>frzs b o xs (I.base.frzs b o xs e),λb ps e =>?_⟩,?_,λx c e =>?_,?_,λx c e =>?_,λp hp =>?_,hok,I.len⟩
 ·exact keep b o (neL b o e) hb (neC b o e hx) (I.base.keep b o e n hb hx) (I.base.free b o e n hx)
 ·obtain ⟨sl,e1⟩:=I.base.slot b o e n hb hx
  obtain ⟨sl',e2⟩:=slot b _ (neL b o e) hb (neC b o e hx) e1 (I.base.free b o e n hx)
  exact ⟨sl',e2⟩
 ·obtain ⟨o',e1⟩:=I.base.there b o e hx
  exact free b o' (neC b o e hx) e1 (I.base.free b o e n hx)
 ·obtain ⟨o',e1⟩:=I.base.there b o e hx
  exact there b o' (neC b o e hx) e1
 ·obtain ⟨m1,e1⟩:=I.base.tbls b ps e
  obtain ⟨m2,e2⟩:=tbls b _ e1
  exact ⟨m1++m2,by rw[e2,Ay]⟩
 ·obtain ⟨m,hn,hl⟩:=I.loc
  refine ⟨m,ns m hn,λi x v e1 e2 e3 =>?_⟩
  obtain ⟨u,r,l⟩:=hl i x v e1 e2 e3
  refine ⟨u,r,?_⟩
  rcases l with l | ⟨k,c,e,z⟩
  ·exact .inl l
  ·exact .inr ⟨k,c,e,cellK x c e _ z⟩
 ·obtain ⟨v,z⟩:=I.cell x c e
  exact ⟨v,cellK x c e v z⟩
 ·obtain ⟨m,⟨o,_,_,ho,_⟩,_⟩:=I.loc
  exact free _ o (λz=>(hch _ z).2.1 rfl) ho I.free
 ·obtain ⟨v,o,ho,hd⟩:=I.cell x c e
  exact free c o (λz=>(hch c z).2.2.1 x c e rfl) ho (I.freeC x c e)
 ·obtain ⟨e,n,ne,nf,d⟩:=I.pin p hp
  have nch:p.1∉ch:=λz=>(hch p.1 z).2.2.2 p hp rfl
  exact ⟨keep p.1 p.2 ne nf nch e n,free p.1 p.2 nch e n,ne,nf,d⟩
theorem Inv.un {t':Nat}(I:Inv X pins σ H s)(u:Un X.fs [] H H' s.heap h')(hok:HOk X.prog X.w H' h'):Inv X pins σ H' { s with heap:=h',toks:=t' }:=by
 obtain ⟨m,⟨o,es,ep,ho,r⟩,_⟩:=id I.loc
 obtain ⟨sl,hL⟩:=u.any ho I.free (by simp)
 exact I.step (g':=s.gens) (d':=s.drawn) (ch:=[]) (λ_ z=>nomatch z) (λb o _ hb _ e n=>u.keep b o e n hb (by simp)) (λb o _ hb _ e n=>u.slot b o e n hb (by simp)) (λb o _ e n=>u.free b o e n (by simp)) (λb o _ e=>u.there b o e (by simp)) u.tups u.frzs u.tbls (λm' hm=>by
  obtain ⟨o',es',ep',ho',r'⟩:=hm
  rw[ho] at ho';cases ho'
  exact ⟨_,es',ep',hL,r'⟩) hok I.bare
theorem Inv.call {g':Array GenState}{t':Nat}{d':Drawn}{ch:List Addr}(I:Inv X pins σ H s)(u:Un (frs X.stack) ch H H' s.heap h')(hok:HOk X.prog X.w H' h')(hg:AllBare g')
  (hch:∀b∈ch,(b∈X.ex\/X.s₀.heap.objs.size<=b)/\b≠X.env.locals/\(∀x c,X.env.cells.lookup x=some c->c≠b)/\∀p∈X.pn++pins,p.1≠b) :
  Inv X pins σ H' { s with heap:=h',gens:=g',drawn:=d',toks:=t' }:=by
 obtain ⟨m,⟨o,es,ep,ho,r⟩,_⟩:=id I.loc
 obtain ⟨sl,hL⟩:=u.any ho I.free λz=>(hch _ z).2.1 rfl
 exact I.step (ch:=ch) hch (λb o hL hb hc e n=>u.keep b o e n (λz=>(vn.mp (I.i6 b z)).elim hL hb) hc) (λb o _ _ hc e n=>u.any e n hc) (λb o hc e n=>u.free b o e n hc) (λb o hc e=>u.there b o e hc) u.tups u.frzs u.tbls (λm' hm=>by
  obtain ⟨o',es',ep',ho',r'⟩:=hm
  rw[ho] at ho';cases ho'
  exact ⟨_,es',ep',hL,r'⟩) hok hg
theorem Inv.turned {t':Nat}{it:Addr}(I:Inv X pins σ H s)(k:∀b o,b≠it->s.heap.get? b=some o->h'.get? b=some o)(hn:H it=none)(hL:it≠X.env.locals)
  (h1:it∈X.ex\/X.s₀.heap.objs.size<=it) (h2:∀x c,X.env.cells.lookup x=some c->c≠it) (h3:∀p∈X.pn++pins,p.1≠it):Inv X pins σ H { s with heap:=h',toks:=t' }:=by
 have nit:∀b u,H b=some u->b≠it:=λb u e z=>by rw[z,hn] at e;cases e
 refine I.step (g':=s.gens) (d':=s.drawn) (ch:=[it]) (λb hb =>?_) (λb o _ _ hc e _=>k b o (λz=>hc (by simp[z])) e) (λb o _ _ hc e _=>⟨o.slots,k b o (λz=>hc (by simp[z])) e⟩) (λ_ _ _ _ n=>n)
  (λb o hc e=>⟨o,k b o (λz=>hc (by simp[z])) e⟩) (λ_ _ e=>e) (λ_ _ _ e=>e) (λb ps e=>⟨#[],by rw[e];simp⟩) (λm hm =>?_) (λb u e =>?_) I.bare
 ·have e:b=it:=by simpa using hb
  subst e
  exact ⟨h1,hL,h2,h3⟩
 ·obtain ⟨o,es,ep,ho,r⟩:=hm
  exact ⟨o,es,ep,k _ o (w6 hL) ho,r⟩
 ·refine (I.hok b u e).stay (λc v hc q=>k c v ?_ q) (λ_ q=>q) λ_ _ q=>q
  rcases hc with z | z
  ·rw[z];exact nit b u e
  ·exact nit c _ z
theorem Inv.tok (I:Inv X pins σ H s)(t:Nat):Inv X pins σ H { s with toks:=t }:=I.un (h':=s.heap) (t':=t) Un.refl I.hok
theorem Inv.kept {t':Nat}(I:Inv X pins σ H s)(k:∀b u,s.heap.get? b=some u->h'.get? b=some u):Inv X pins σ H { s with heap:=h',toks:=t' }:=I.un (Un.kept k) (I.hok.kept k)
theorem Inv.laid {a:Addr}{o:HO}{t':Nat}(I:Inv X pins σ H s)(k:∀b u,s.heap.get? b=some u->h'.get? b=some u)(hp:s.heap.objs.size<=a)(new:bp X.prog X.w (upd H a o) h' a o) :
  Inv X pins σ (upd H a o) { s with heap:=h',toks:=t' }:=I.un (Un.laid k hp (I.hok.fresh hp)) (I.hok.laid k hp new)
theorem Inv.write {x e:Addr}{o:HO}{t':Nat}(I:Inv X pins σ H s)(mu:Mut (H x))(he:e=x\/H e=some (.own x))(k:∀b u,b≠e->s.heap.get? b=some u->h'.get? b=some u)(heo:∃u,h'.get? e=some u)
  (new:bp X.prog X.w (upd H x o) h' x o):Inv X pins σ (upd H x o) { s with heap:=h',toks:=t' }:=I.un (Un.write mu he k heo) (I.hok.write mu he k heo new)
theorem Inv.eL {pins':List (Addr×Obj)}(I:Inv X pins σ H s)(h:∀p∈pins',s.heap.get? p.1=some p.2/\H p.1=none/\p.1≠X.env.locals/\p.1∉X.fs/\∀v,p.2.data ≠ .cell v):Inv X pins' σ H s :=
 ⟨I.ok,I.os,I.bare,I.base,I.loc,I.cell,I.free,I.freeC,λp hp=>(uC.mp hp).elim (λz=>I.pin p (vS _ z)) (h p),I.hok,I.len⟩
theorem gi {N:List Str}(hN:N.Nodup){i j:Nat}{x:Str}(a:N[i]? = some x)(b:N[j]? = some x):i=j:=by
 obtain ⟨h1,e1⟩:=um.mp a
 obtain ⟨h2,e2⟩:=um.mp b
 exact (List.getElem_inj hN).mp (e1.trans e2.symm)
theorem mq {M:Model}{A:vz}{E:ug->uj->Prop}{i:Nat}{x:Str}{v:V}{u:ug}{Q:Unit->uj->Prop}(I:Inv X pins σ H s)(hN:X.N.Nodup)(hi:X.N[i]? = some x)(hx:Loc X.env.scope x)(r:RelV v u)
  (h:∀s',Inv X pins (σ.set i (some v)) H s'->(∃a,Heap.SameBut a s.heap s'.heap/\(a=X.env.locals\/X.env.cells.lookup x=some a))->Q () s') (hf:X.fn x=true\/X.env.scope.names.lookup x=some .local:=by first | exact .inl rfl | exact .inr rfl | assumption):vm M A (storeName X.env x u) Q E s:=by
 obtain ⟨m,hn,hl⟩:=id I.loc
 have hcls:(X.env.scope.kind == .class || (X.env.scope.kind == .module && X.env.locals != X.env.globals))=false:=by rw[I.ok.kind];rfl
 have hiσ:i<σ.length:=by rw[I.len];exact (um.mp hi).1
 have cne:=I.cne
 have tracked:∀{a:Addr} {h':Heap},(∃o,s.heap.get? a=some o/\H a=none)->Heap.SameBut a s.heap h'->HOk X.prog X.w H h':=λ{a h'} ha hs b ob e=>by
  obtain ⟨_,_,hfree⟩:=ha
  refine (I.hok b ob e).stay (λc w' hc q=>(hs.2 c ?_).trans q) (λ_ q=>q) λ_ _ q=>q
  rintro rfl
  rcases hc with rfl | hc
  ·rw[hfree] at e;cases e
  ·rw[hfree] at hc;cases hc
 rcases hx with hk | hk
 ·refine wpAny_storeName_local hk hn (λh' hn' hs =>?_) hcls
  obtain ⟨oL,_,_,hoL,_⟩:=id hn
  refine h _ ⟨I.ok,I.os,I.bare,⟨λb o e n hb hx =>?_,λb o e n hb hx =>?_,I.base.free,λb o e hx =>?_,I.base.tups,I.base.frzs,I.base.tbls⟩,⟨_,hn',λj y v' e1 e2 e3 =>?_⟩,λy c e =>?_,I.free,I.freeC,λp hp =>?_,tracked ⟨oL,hoL,I.free⟩ hs,by simpa using I.len⟩ ⟨_,hs,.inl rfl⟩
  ·exact (hs.2 b (ve (uG (uO e) I.ok.above))).trans (I.base.keep b o e n hb hx)
  ·obtain ⟨sl,e1⟩:=I.base.slot b o e n hb hx
   exact ⟨sl,(hs.2 b (ve (uG (uO e) I.ok.above))).trans e1⟩
  ·obtain ⟨o',e1⟩:=I.base.there b o e hx
   exact ⟨o',(hs.2 b (ve (uG (uO e) I.ok.above))).trans e1⟩
  ·by_cases hj:j=i
   ·subst hj
    rw[hi] at e1;cases e1
    rw[v8 hiσ] at e2
    cases e2
    exact ⟨u,r,.inl ⟨hk,by simp⟩⟩
   ·rw[wK (w6 hj)] at e2
    obtain ⟨u',r',q⟩:=hl j y v' e1 e2 e3
    refine ⟨u',r',?_⟩
    rcases q with ⟨k,e⟩ | ⟨k,c,e,z⟩
    ·refine .inl ⟨k,?_⟩
     have:y≠x:=λe=>hj (gi hN e1 (e ▸ hi))
     simp[this,e]
    ·exact .inr ⟨k,c,e,z.sameBut hs (cne y c e)⟩
  ·obtain ⟨w',z⟩:=I.cell y c e
   exact ⟨w',z.sameBut hs (cne y c e)⟩
  ·obtain ⟨e,n,ne,nf,d⟩:=I.pin p hp
   exact ⟨(hs.2 p.1 ne).trans e,n,ne,nf,d⟩
 ·have hfn:X.fn x=true:=by
   rcases hf with z | z
   ·exact z
   ·rw[z] at hk;cases hk
  obtain ⟨c,hc⟩:=I.ok.has x (.inl hk)
  obtain ⟨w',z⟩:=I.cell x c hc
  refine wpAny_storeName_cell I.ok.kind hk hc z (λh' hc' hs =>?_)
  obtain ⟨oc,hoc,hocd⟩:=id z
  refine h { s with heap:=h' } ⟨I.ok,I.os,I.bare,⟨λb o e n hb hx =>?_,λb o e n hb hx =>?_,I.base.free,λb o e hx =>?_,I.base.tups,I.base.frzs,I.base.tbls⟩,⟨m,hn.sameBut hs (w6 (cne x c hc)),λj y v' e1 e2 e3 =>?_⟩,λy c' e =>?_,I.free,I.freeC,λp hp =>?_,tracked ⟨oc,hoc,I.freeC x c hc⟩ hs,by simpa using I.len⟩ ⟨c,hs,.inr hc⟩
  ·exact (hs.2 b (ve (uG (uO e) (I.ok.cab x c hfn hc)))).trans (I.base.keep b o e n hb hx)
  ·obtain ⟨sl,e1⟩:=I.base.slot b o e n hb hx
   exact ⟨sl,(hs.2 b (ve (uG (uO e) (I.ok.cab x c hfn hc)))).trans e1⟩
  ·obtain ⟨o',e1⟩:=I.base.there b o e hx
   exact ⟨o',(hs.2 b (ve (uG (uO e) (I.ok.cab x c hfn hc)))).trans e1⟩
  ·by_cases hj:j=i
   ·subst hj
    rw[hi] at e1;cases e1
    rw[v8 hiσ] at e2
    cases e2
    exact ⟨u,r,.inr ⟨.inl hk,c,hc,hc'⟩⟩
   ·rw[wK (w6 hj)] at e2
    obtain ⟨u',r',q⟩:=hl j y v' e1 e2 e3
    refine ⟨u',r',?_⟩
    rcases q with q | ⟨k,c',e,z'⟩
    ·exact .inl q
    ·refine .inr ⟨k,c',e,z'.sameBut hs ?_⟩
     rintro rfl
     exact hj (gi hN e1 (I.ok.inj _ _ _ e hc ▸ hi))
  ·by_cases hcc:c'=c
   ·subst hcc;exact ⟨_,hc'⟩
   ·obtain ⟨w2,z2⟩:=I.cell y c' e
    exact ⟨w2,z2.sameBut hs hcc⟩
  ·obtain ⟨e,n,ne,nf,d⟩:=I.pin p hp
   refine ⟨(hs.2 p.1 ?_).trans e,n,ne,nf,d⟩
   intro q
   rw[q,hoc] at e
   have q':oc=p.2:=vw e
   exact d w' (by rw[<- q'];exact hocd)
theorem eM {M:Model}{A:vz}{E:ug->uj->Prop}{i:Nat}{x:Str}{v:V}{u:ug}{Q:Unit->uj->Prop}(I:Inv X pins σ H s)(hN:X.N.Nodup)(hi:X.N[i]? = some x)(hx:Loc X.env.scope x)(r:RelV v u)
  (h:∀s',Inv X pins (σ.set i (some v)) H s'->Q () s') (hf:X.fn x=true\/X.env.scope.names.lookup x=some .local:=by first | exact .inl rfl | exact .inr rfl | assumption):vm M A (storeName X.env x u) Q E s :=
 mq I hN hi hx r (λs' I' _=>h s' I') hf
theorem Inv.qG {s':uj}{ch:List Addr}(I:Inv X pins σ H s)(ho:s'.os=s.os)(u:Un (frs X.stack) ch H H' s.heap s'.heap)(hok:HOk X.prog X.w H' s'.heap)(hg:AllBare s'.gens)
  (hch:∀b∈ch,(b∈X.ex\/X.s₀.heap.objs.size<=b)/\b≠X.env.locals/\(∀x c,X.env.cells.lookup x=some c->c≠b)/\∀p∈X.pn++pins,p.1≠b):Inv X pins σ H' s':=by
 obtain ⟨h',g',d',t',o'⟩:=s'
 have e:o'=s.os:=ho
 subst e
 exact I.call (g':=g') (t':=t') (d':=d') u hok hg hch
end
abbrev XK:=ug->Option Addr->Hp->Prop
abbrev St:=List (Option V)
abbrev VK:=V->Hp->Prop
abbrev TE:=St->Hp->VK->Prop
abbrev TT:=St->Hp->(Bool->Hp->Prop)->Prop
abbrev TA:=St->Hp->(List V->Hp->Prop)->Prop
structure Ends where
 nx:St->Hp->Prop
 rt:VK
 bk:St->Hp->Prop:=λ_ _=>False
 ct:St->Hp->Prop:=λ_ _=>False
abbrev TS:=Ends->St->Hp->Prop
def EP (X:Cx)(pins:List (Addr×Obj))(σ:St)(Q:VK)(u:ug)(s':uj):Prop:=∃v H',Inv X pins σ H' s'/\RelV v u/\Q v H'
def TP (X:Cx)(pins:List (Addr×Obj))(σ:St)(Q:Bool->Hp->Prop)(b:Bool)(s':uj):Prop:=∃H',Inv X pins σ H' s'/\Q b H'
def AP (X:Cx)(pins:List (Addr×Obj))(σ:St)(Q:List V->Hp->Prop)(us:List ug)(s':uj):Prop:=∃vs H',Inv X pins σ H' s'/\Vals vs us/\Q vs H'
def SP (X:Cx)(pins:List (Addr×Obj))(D:Ends)(f:Flow)(s':uj):Prop :=
 match f with
 | .next=>∃σ' H',Inv X pins σ' H' s'/\D.nx σ' H'
 | .brk=>∃σ' H',Inv X pins σ' H' s'/\D.bk σ' H'
 | .cont=>∃σ' H',Inv X pins σ' H' s'/\D.ct σ' H'
 | .ret u=>∃v σ' H',Inv X pins σ' H' s'/\RelV v u/\D.rt v H'
def PE (X:Cx)(e:Expr)(t:TE):Prop :=
 ∀(pins:List (Addr×Obj)) (s:uj) (σ:St) (H:Hp) (Q:VK),Inv X pins σ H s->t σ H Q->vm (vk X.prog X.w) X.A (eval e X.env) (EP X pins σ Q) X.xe s
def PT (X:Cx)(e:Expr)(t:TT):Prop :=
 ∀(pins:List (Addr×Obj)) (s:uj) (σ:St) (H:Hp) (Q:Bool->Hp->Prop),Inv X pins σ H s->t σ H Q->vm (vk X.prog X.w) X.A (isTrue e X.env (eval e X.env)) (TP X pins σ Q) X.xe s
def PW (X:Cx)(e:Expr)(t:TT):Prop :=
 ∀(whole:Sem ug) (pins:List (Addr×Obj)) (s:uj) (σ:St) (H:Hp) (Q:Bool->Hp->Prop),Inv X pins σ H s->t σ H Q->vm (vk X.prog X.w) X.A (isTrue e X.env whole) (TP X pins σ Q) X.xe s
theorem PW.pt {X:Cx}{e:Expr}{t:TT}(h:PW X e t):PT X e t:=h _
def PA (X:Cx)(es:List Expr)(t:TA):Prop :=
 ∀(pos:Pos) (pins:List (Addr×Obj)) (s:uj) (σ:St) (H:Hp) (Q:List V->Hp->Prop),Inv X pins σ H s->t σ H Q->vm (vk X.prog X.w) X.A (spliced (yX pos (vG es X.env))) (AP X pins σ Q) X.xe s
def PS (X:Cx)(st:Stmt)(t:TS):Prop :=
 ∀(pins:List (Addr×Obj)) (s:uj) (σ:St) (H:Hp) (D:Ends),Inv X pins σ H s->t D σ H->vm (vk X.prog X.w) X.A (exec st X.env) (SP X pins D) X.xe s
def PSs (X:Cx)(st:List Stmt)(t:TS):Prop :=
 ∀(pins:List (Addr×Obj)) (s:uj) (σ:St) (H:Hp) (D:Ends),Inv X pins σ H s->t D σ H->vm (vk X.prog X.w) X.A (execs st X.env) (SP X pins D) X.xe s
theorem thn {α:Type}{t:Sem α}{Q Q':α -> uj->Prop}{M:Model}{A:vz}{E:ug->uj->Prop}{s:uj}(h:vm M A t Q E s)(hQ:∀a s,Q a s->Q' a s):vm M A t Q' E s:=wG h hQ λ_ _ x=>x
open PySem PySem.Spec PyProof.Rows
section
variable  {X:Cx}
theorem bin {a b:Expr}{ta tb:TE}(ha:PE X a ta)(hb:PE X b tb){pins:List (Addr×Obj)}{s:uj}{σ:St}{H:Hp}{R:V->V->Hp->Prop}(I:Inv X pins σ H s)(h:ta σ H λx H1=>tb σ H1 λy H2=>R x y H2)
  {α:Type} {Q:α -> uj->Prop} {f:ug->ug->Sem α}
  (hf:∀v u s2 x y H2,Inv X pins σ H2 s2->RelV x v->RelV y u->R x y H2->vm (vk X.prog X.w) X.A (f v u) Q X.xe s2) :
  vm (vk X.prog X.w) X.A (eval a X.env) (λv s₁=>vm (vk X.prog X.w) X.A (eval b X.env) (λu s₂=>vm (vk X.prog X.w) X.A (f v u) Q X.xe s₂) X.xe s₁) X.xe s:=by
 refine thn (ha pins s σ H _ I h) λv s1 ⟨x,H1,I1,r1,q1⟩ =>?_
 refine thn (hb pins s1 σ H1 _ I1 q1) λu s2 ⟨y,H2,I2,r2,q2⟩ =>?_
 exact hf v u s2 x y H2 I2 r1 r2 q2
def sN (i:Nat):TE:=λσ H Q=>∃v,σ[i]? = some (some v)/\Q v H
def tC (v:V):TE:=λ_ H Q=>Q v H
theorem rh {i:Nat}{x:Str}{pos:Pos}(hN:X.N[i]? = some x)(hv:Vis X.env.scope x)(hd:(x == ("__debug__" : Str))=false:=by decide)(hcd:(x == ("__classdict__" : Str))=false:=by decide):PE X (.Name x pos) (sN i):=by
 intro pins s σ H Q I h
 obtain ⟨v,e,h⟩:=h
 obtain ⟨m,hn,hl⟩:=I.loc
 obtain ⟨u,r,l⟩:=hl i x v hN e hv
 have fin:EP X pins σ Q u s:=⟨v,H,I,r,h⟩
 rcases l with ⟨hk,hm⟩ | ⟨hk,c,hc,hcell⟩
 ·exact BO (wpAny_loadName_local I.ok.kind hk hn hm fin) hd
 ·rcases hk with hk | hk
  ·exact BO (wpAny_loadName_cell I.ok.kind hk hc hcell fin) hd
  ·exact BO (wpAny_loadName_free I.ok.kind hk hc hcell fin hcd) hd
theorem ah {i j pos}:PE X (.Constant (.int i) j pos) (tC (.int i)):=λ_ _ _ H _ I h=>wpAny_Constant_int ⟨.int i,H,I.tok _,⟨_,rfl⟩,h⟩
theorem qH {b j pos}:PE X (.Constant (.bool b) j pos) (tC (.bl b)):=λ_ _ _ H _ I h=>Constant_bool ⟨.bl b,H,I,rfl,h⟩
theorem rj {j pos}:PE X (.Constant .none j pos) (tC .non):=λ_ _ _ H _ I h=>Constant_none ⟨.non,H,I,rfl,h⟩
theorem rn {x j pos}:PE X (.Constant (.str x) j pos) (tC (.str x)):=λ_ _ _ H _ I h=>Calls.Constant_str ⟨.str x,H,I.tok _,⟨_,rfl⟩,h⟩
def Gl (X:Cx)(x:Str):Prop:=X.env.kindOf x=some .globalImplicit
theorem eN {E:ug->uj->Prop}{pins:List (Addr×Obj)}{s:uj}{σ:St}{H:Hp}{x:Str}{u:ug}{pos:Pos}{Q:ug->uj->Prop}(I:Inv X pins σ H s)(hg:Gl X x)(hm:X.mg x=some u)(h:Q u s)
  (hd:(x == ("__debug__" : Str))=false:=by decide):vm (vk X.prog X.w) X.A (eval (.Name x pos) X.env) Q E s :=
 yN I.ok.kind hg (Calls.loadGlobal_global (by rw[I.ok.glob];exact I.mod.glob.keeps I.bk) hm h) hd
theorem i8 {E:ug->uj->Prop}{pins:List (Addr×Obj)}{s:uj}{σ:St}{H:Hp}{x:Str}{u:ug}{pos:Pos}{Q:ug->uj->Prop}(I:Inv X pins σ H s)(hg:Gl X x)(hm:X.mg x=none)(hv:vJ x=some u)(h:Q u s)
  (hn:x ≠ "__name__" := by decide) (hd:(x == ("__debug__" : Str))=false:=by decide):vm (vk X.prog X.w) X.A (eval (.Name x pos) X.env) Q E s:=by
 obtain ⟨mb,h1,h2⟩:=I.mod.blt
 exact yN I.ok.kind hg (Calls.loadGlobal_builtin (by rw[I.ok.glob];exact I.mod.glob.keeps I.bk) hm (by rw[I.ok.blt];exact h1.keeps I.bk) ((h2 x hn).trans hv) h) hd
theorem bL {x:Str}{v:V}{u:ug}{pos:Pos}(hg:Gl X x)(hm:X.mg x=some u)(r:RelV v u)(hd:(x == ("__debug__" : Str))=false:=by decide):PE X (.Name x pos) (tC v) :=
 λ_ _ _ H _ I h=>eN I hg hm ⟨v,H,I,r,h⟩ hd
theorem i9 {x:Str}{v:V}{u:ug}{pos:Pos}(hg:Gl X x)(hm:X.mg x=none)(hv:vJ x=some u)(r:RelV v u)(hn:x ≠ "__name__" := by decide)(hd:(x == ("__debug__" : Str))=false:=by decide):PE X (.Name x pos) (tC v) :=
 λ_ _ _ H _ I h=>i8 I hg hm hv ⟨v,H,I,r,h⟩ hn hd
variable  {a b:Expr}{ta tb:TE}{pos:Pos}
def PC (X:Cx)(op:CmpOp)(a b:Expr)(t:TE):Prop :=
 ∀(pins:List (Addr×Obj)) (s:uj) (σ:St) (H:Hp) (Q:VK),Inv X pins σ H s->t σ H Q →
  vm (vk X.prog X.w) X.A (eval a X.env) (λv s₁=>vm (vk X.prog X.w) X.A (eval b X.env) (λu s₂=>vm (vk X.prog X.w) X.A (wq op v u) (EP X pins σ Q) X.xe s₂) X.xe s₁) X.xe s
theorem nE (b:Expr){op:CmpOp}(h:op ≠ .In)(h2:op ≠ .NotIn):behindInMarks op b=false:=by
 have e1:(op == CmpOp.In)=false:=by cases op <;> first | rfl | exact absurd rfl h
 have e2:(op == CmpOp.NotIn)=false:=by cases op <;> first | rfl | exact absurd rfl h2
 cases b <;> simp[behindInMarks,e1,e2]
def tB (t:TE):TT:=λσ H Q=>t σ H λx H1=>∃c,x = .bl c/\Q c H1
theorem pt_cmp {op:CmpOp}{t:TE}(h:PC X op a b t)(h1:behindInMarks op b=false:=by first | exact nE _ (by decide) (by decide) | rfl):PT X (.Compare a [op] [b] pos) (tB t):=by
 intro pins s σ H Q I hw
 refine z7 (thn (h pins s σ H _ I hw) λv s1 h1=>thn h1 λu s2 h2=>thn h2 λc s3 ⟨x,H1,I1,r1,q1⟩ =>?_) h1
 obtain ⟨d,rfl,q⟩:=q1
 cases r1
 exact xo ⟨H1,I1,q⟩
theorem cF {e:Expr}{t:TE}(h:PE X e t)(he:∀whole,isTrue e X.env whole=(do let v ← whole;standAt e.pos;Ab [v] (truthy v)):=by intro _;rfl):PT X e (tB t):=by
  intro pins s σ H Q I hw
  refine isTrue_plain (thn (h pins s σ H _ I hw) λv s1 ⟨x,H1,I1,r1,q1⟩ =>?_) (he _)
  obtain ⟨d,rfl,q⟩:=q1
  cases r1
  exact xo ⟨H1,I1,q⟩
variable  {tA tB':TT}{rest:List Expr}
def tAnd (t u:TT):TT:=λσ H Q=>t σ H λc H1=>if c=true then u σ H1 Q else Q false H1
def tOr (t u:TT):TT:=λσ H Q=>t σ H λc H1=>if c=true then Q true H1 else u σ H1 Q
def tNot (t:TT):TT:=λσ H Q=>t σ H λc H1=>Q (!c) H1
theorem dF (ha:PT X a tA):PW X (.BoolOp .And [a] pos) tA:=by
 intro wh pins s σ H Q I h
 refine isTrue_and (thn (ha pins s σ H Q I h) λc s1 e =>?_)
 cases c with
 | true=>exact isTrue_and_nil e
 | false=>exact e
theorem gj (ha:PT X a tA):PW X (.BoolOp .Or [a] pos) tA:=by
 intro wh pins s σ H Q I h
 refine isTrue_or (thn (ha pins s σ H Q I h) λc s1 e =>?_)
 cases c with
 | false=>exact isTrue_or_nil e
 | true=>exact e
theorem ft (ha:PT X a tA)(hb:PW X (.BoolOp .And (b :: rest) pos) tB'):PW X (.BoolOp .And (a :: b :: rest) pos) (tAnd tA tB'):=by
 intro wh pins s σ H Q I h
 refine isTrue_and (thn (ha pins s σ H _ I h) λc s1 ⟨H1,I1,q1⟩ =>?_)
 cases c with
 | true=>exact hb wh pins s1 σ H1 Q I1 q1
 | false=>exact ⟨H1,I1,q1⟩
theorem ir (ha:PT X a tA)(hb:PW X (.BoolOp .Or (b :: rest) pos) tB'):PW X (.BoolOp .Or (a :: b :: rest) pos) (tOr tA tB'):=by
 intro wh pins s σ H Q I h
 refine isTrue_or (thn (ha pins s σ H _ I h) λc s1 ⟨H1,I1,q1⟩ =>?_)
 cases c with
 | true=>exact ⟨H1,I1,q1⟩
 | false=>exact hb wh pins s1 σ H1 Q I1 q1
theorem d9 (ha:PT X a tA):PT X (.UnaryOp .Not a pos) (tNot tA):=by
 intro pins s σ H Q I h
 exact isTrue_not (ha pins s σ H (λc H1=>Q (!c) H1) I h)
def sO (ta tb:TE):TE:=λσ H Q=>ta σ H λx H1=>∃c,x = .bl c/\if c=true then tb σ H1 Q else Q (.bl false) H1
theorem rp {op}{t:TE}(h:PE X a t):PE X (.BoolOp op [a] pos) t:=λpins s σ H Q I hw=>BoolOp_one (h pins s σ H Q I hw)
theorem rq (ha:PE X a ta)(hb:PE X (.BoolOp .And (b :: rest) pos) tb):PE X (.BoolOp .And (a :: b :: rest) pos) (sO ta tb):=by
 intro pins s σ H Q I h
 refine BoolOp_and (thn (ha pins s σ H _ I h) λv s1 ⟨x,H1,I1,r1,q1⟩ =>?_)
 obtain ⟨c,rfl,q1⟩:=q1
 cases r1
 refine xo ?_
 cases c with
 | true=>exact hb pins s1 σ H1 Q I1 q1
 | false=>exact ⟨.bl false,H1,I1,rfl,q1⟩
def tIf (t:TT)(ta tb:TE):TE:=λσ H Q=>t σ H λc H1=>if c=true then ta σ H1 Q else tb σ H1 Q
theorem nF {c:Expr}(hc:PT X c tA)(ha:PE X a ta)(hb:PE X b tb):PE X (.IfExp c a b pos) (tIf tA ta tb):=by
 intro pins s σ H Q I h
 refine wpAny_IfExp (thn (hc pins s σ H _ I h) λd s1 ⟨H1,I1,q1⟩ =>?_)
 cases d with
 | true=>exact ha pins s1 σ H1 Q I1 q1
 | false=>exact hb pins s1 σ H1 Q I1 q1
end
open PySem PySem.Spec PyProof.Rows
def SqL (K:uh)(H:Hp)(a:Addr)(xs:List V):Prop :=
 Rd H a (.lst xs) ∨
  ∃(o:Obj) (its:Array ug) (n:Nat),K.lookup a=some o/\o.cls = .type "list" /\ o.dict=none/\o.data = .seq its n/\its.size<=uL/\Vals xs its.toList
def SqT (K:uh)(H:Hp)(a:Addr)(xs:List V):Prop :=
 Rd H a (.tup xs) ∨
  ∃(o:Obj) (its:Array ug) (n:Nat),K.lookup a=some o/\o.cls = .type "tuple" /\ o.data = .seq its n/\its.size<=uL/\Vals xs its.toList
def absV:ug->Option V
 | .none=>some .non
 | .bool b=>some (.bl b)
 | .int i _=>some (.int i)
 | .str x _=>some (.str x)
 | .bytes b _=>some (.byt b)
 | .float b _=>some (.flt b)
 | .ref a=>some (.ref a)
 | .type n=>some (.ty n)
 | _=>none
theorem RelV.abs {x:V}{u:ug}(r:RelV x u):absV u=some x:=by
 cases x with
 | non=>cases r;rfl
 | bl _=>cases r;rfl
 | int _=>obtain ⟨t,rfl⟩:=r;rfl
 | str _=>obtain ⟨t,rfl⟩:=r;rfl
 | byt _=>obtain ⟨t,rfl⟩:=r;rfl
 | flt _=>obtain ⟨t,rfl⟩:=r;rfl
 | ref _=>cases r;rfl
 | ty _=>cases r;rfl
theorem RelV.inj {x y:V}{u:ug}(r:RelV x u)(q:RelV y u):x=y:=vw (r.abs.symm.trans q.abs)
theorem Vals.inj:∀{xs ys:List V} {us:List ug},Vals xs us->Vals ys us->xs=ys
 | _,_,_,.nil,.nil=>rfl
 | _,_,_,.cons r t,.cons r' t'=>by rw[r.inj r',Vals.inj t t']
section
variable  {X:Cx}{pins:List (Addr×Obj)}{σ:St}{H:Hp}{s:uj}{a:Addr}{xs ys:List V}
theorem SqL.of {K:uh}(h:H a=some (.lst xs)):SqL K H a xs :=.inl (.inl h)
theorem SqT.of {K:uh}(h:H a=some (.tup xs)):SqT K H a xs :=.inl (.inl h)
theorem Inv.list (I:Inv X pins σ H s)(h:SqL X.K H a xs):∃its:List ug,Vals xs its/\PlainL s.heap a its.toArray/\xs.length<=uL:=by
 rcases h with h | ⟨o,its,n,hk,hc,hd,hs,hz,r⟩
 ·obtain ⟨z,its,n,r,e⟩:=h.ok I.hok
  exact ⟨its,r,⟨_,n,e,rfl,rfl,rfl⟩,z⟩
 ·refine ⟨its.toList,r,⟨o,n,I.kIn a o hk,hc,hd,by simpa using hs⟩,?_⟩
  have e:=r.length
  simp only[uo] at e
  lia
theorem Inv.tuple (I:Inv X pins σ H s)(h:SqT X.K H a xs):∃its:List ug,Vals xs its/\IsTup s.heap a its.toArray/\xs.length<=uL:=by
 rcases h with h | ⟨o,its,n,hk,hc,hs,hz,r⟩
 ·obtain ⟨z,its,r,p⟩:=h.ok I.hok
  exact ⟨its,r,p.tup,z⟩
 ·refine ⟨its.toList,r,⟨o,I.kIn a o hk,hc,n,by simpa using hs⟩,?_⟩
  have e:=r.length
  simp only[uo] at e
  lia
theorem Inv.nG (I:Inv X pins σ H s)(h:SqL X.K H a xs)(h':SqL X.K H a ys):xs=ys:=by
 obtain ⟨its,r,⟨o,n,e,_,_,d⟩,_⟩:=I.list h
 obtain ⟨its',r',⟨o',n',e',_,_,d'⟩,_⟩:=I.list h'
 rw[e] at e';cases e'
 rw[d] at d'
 injection d' with d1 _
 have:its=its':=by simpa using congrArg Array.toList d1
 subst this
 exact r.inj r'
theorem Inv.iu (I:Inv X pins σ H s)(h:SqT X.K H a xs)(h':SqT X.K H a ys):xs=ys:=by
 obtain ⟨its,r,⟨o,e,_,n,d⟩,_⟩:=I.tuple h
 obtain ⟨its',r',⟨o',e',_,n',d'⟩,_⟩:=I.tuple h'
 rw[e] at e';cases e'
 rw[d] at d'
 injection d' with d1 _
 have:its=its':=by simpa using congrArg Array.toList d1
 subst this
 exact r.inj r'
end
abbrev Cx.gk (X:Cx)(E:ug->uj->Prop):Cx:={ X with xe:=E }
abbrev Cx.nox (X:Cx):Cx:=X.gk λ_ _=>False
theorem Cx.Ok.gk {X:Cx}(ok:X.Ok)(E:ug->uj->Prop):(X.gk E).Ok :=
 ⟨ok.mod,ok.kind,ok.glob,ok.blt,ok.above,ok.inj,ok.has,ok.cab,ok.hd,ok.frames,ok.stk,ok.exf,ok.bs,ok.bsz,ok.noex,ok.exfs,ok.funs,ok.frf⟩
theorem Cx.Ok.cG {X:Cx}{E:ug->uj->Prop}(ok:(X.gk E).Ok):X.Ok :=
 ⟨ok.mod,ok.kind,ok.glob,ok.blt,ok.above,ok.inj,ok.has,ok.cab,ok.hd,ok.frames,ok.stk,ok.exf,ok.bs,ok.bsz,ok.noex,ok.exfs,ok.funs,ok.frf⟩
section
variable  {X:Cx}{pins:List (Addr×Obj)}{σ:St}{H:Hp}{s:uj}{E:ug->uj->Prop}
theorem Inv.gk (I:Inv X pins σ H s)(E:ug->uj->Prop):Inv (X.gk E) pins σ H s:=⟨I.ok.gk E,I.os,I.bare,I.base,I.loc,I.cell,I.free,I.freeC,I.pin,I.hok,I.len⟩
theorem Inv.cG (I:Inv (X.gk E) pins σ H s):Inv X pins σ H s:=⟨I.ok.cG,I.os,I.bare,I.base,I.loc,I.cell,I.free,I.freeC,I.pin,I.hok,I.len⟩
theorem SP.cG {D:Ends}{f:Flow}{s':uj}(h:SP (X.gk E) pins D f s'):SP X pins D f s':=by
 cases f with
 | next=>obtain ⟨σ',H',I,q⟩:=h;exact ⟨σ',H',I.cG,q⟩
 | brk=>obtain ⟨σ',H',I,q⟩:=h;exact ⟨σ',H',I.cG,q⟩
 | cont=>obtain ⟨σ',H',I,q⟩:=h;exact ⟨σ',H',I.cG,q⟩
 | ret u=>obtain ⟨v,σ',H',I,r,q⟩:=h;exact ⟨v,σ',H',I.cG,r,q⟩
theorem PSs.nox {st:List Stmt}{t:TS}(h:PSs X.nox st t):PSs X st t:=λpins s σ H D I hw =>
 wG (h pins s σ H D (I.gk _) hw) (λ_ _ q=>q.cG) λ_ _ z=>False.elim z
end
section
variable  {X:Cx}{st:Stmt}{rest:List Stmt}{t u:TS}{e:Expr}{te:TE}{pos:Pos}
def sP:TS:=λD σ H=>D.nx σ H
def sQ (t u:TS):TS:=λD σ H=>t { D with nx:=u D } σ H
theorem ba:PSs X [] sP:=λ_ _ σ H _ I h=>xJ ⟨σ,H,I,h⟩
theorem ai (h1:PS X st t)(h2:PSs X rest u):PSs X (st :: rest) (sQ t u):=by
 intro pins s σ H D I h
 refine zN (thn (h1 pins s σ H { D with nx:=u D } I h) λf s1 q =>?_)
 cases f with
 | next =>
  obtain ⟨σ',H',I',q⟩:=q
  exact h2 pins s1 σ' H' D I' q
 | ret v=>exact q
 | brk=>exact q
 | cont=>exact q
theorem aj (h1:PS X st t):PSs X [st] t:=by
 intro pins s σ H D I h
 refine zN (thn (h1 pins s σ H D I h) λf s1 q =>?_)
 cases f with
 | next=>exact xJ q
 | ret v=>exact q
 | brk=>exact q
 | cont=>exact q
theorem Inv.quiet {pins:List (Addr×Obj)}{σ:St}{H:Hp}{s:uj}(I:Inv X pins σ H s):interactive X.env=false:=by simp[interactive,I.ok.kind]
def sR (te:TE):TS:=λD σ H=>te σ H λ_ H1=>D.nx σ H1
theorem bC (he:PE X e te)(hs:swapsWith e none pos.line X.env=pure false:=by rfl):PS X (.Expr e pos) (sR te):=by
 intro pins s σ H D I h
 exact wpAny_Expr_any (thn (he pins s σ H _ I h) λv s1 ⟨x,H1,I1,r1,q1⟩=>⟨σ,H1,I1,q1⟩) I.quiet hs
def tRet (te:TE):TS:=λD σ H=>te σ H D.rt
theorem aX (he:PE X e te):PS X (.Return (some e) pos) (tRet te):=by
 intro pins s σ H D I h
 exact wpAny_Return_some (thn (he pins s σ H _ I h) λv s1 ⟨x,H1,I1,r1,q1⟩=>⟨x,σ,H1,I1,r1,q1⟩)
def sS (c:TT)(t u:TS):TS:=λD σ H=>c σ H λb H1=>if b=true then t D σ H1 else u D σ H1
theorem bR {c:Expr}{a b:List Stmt}{tc:TT}(hc:PT X c tc)(ha:PSs X a t)(hb:PSs X b u):PS X (.If c a b pos) (sS tc t u):=by
 intro pins s σ H D I h
 refine wpAny_If (thn (hc pins s σ H _ I h) λd s1 ⟨H1,I1,q1⟩ =>?_)
 cases d with
 | true=>exact ha pins s1 σ H1 D I1 q1
 | false=>exact hb pins s1 σ H1 D I1 q1
def rz:TS:=λ_ _ _=>False
theorem cN {sts:List Stmt}:PSs X sts rz:=λ_ _ _ _ _ _ h=>h.elim
end
abbrev TG:=V->St->Hp->(St->Hp->Prop)->Prop
abbrev TGs:=List V->St->Hp->(St->Hp->Prop)->Prop
def PG (X:Cx)(target:Expr)(t:TG):Prop :=
 ∀(pins:List (Addr×Obj)) (s:uj) (σ:St) (H:Hp) (v:V) (u:ug) (Q:St->Hp->Prop),Inv X pins σ H s->RelV v u->t v σ H Q →
  vm (vk X.prog X.w) X.A (assign target X.env u) (λ_ s'=>∃σ' H',Inv X pins σ' H' s'/\Q σ' H') X.xe s
def PGs (X:Cx)(ts:List Expr)(t:TGs):Prop :=
 ∀(pins:List (Addr×Obj)) (s:uj) (σ:St) (H:Hp) (vs:List V) (us:List ug) (Q:St->Hp->Prop),Inv X pins σ H s->Vals vs us->t vs σ H Q →
  vm (vk X.prog X.w) X.A (assignInOrder ((assignEach ts X.env).map (·.2)) us) (λ_ s'=>∃σ' H',Inv X pins σ' H' s'/\Q σ' H') X.xe s
abbrev nH:=V->V->V->Hp->(Hp->Prop)->Prop
def rA (X:Cx)(t:nH):Prop :=
 ∀(pins:List (Addr×Obj)) (s:uj) (σ:St) (H:Hp) (o i v:V) (ov iv u:ug) (Q:Hp->Prop),Inv X pins σ H s->RelV o ov->RelV i iv->RelV v u->t o i v H Q →
  vm (vk X.prog X.w) X.A (setItem ov iv u) (λ_ s'=>∃H',Inv X pins σ H' s'/\Q H') X.xe s
abbrev TIp:=V->V->Hp->VK->Prop
def PIp (X:Cx)(op:Operator)(t:TIp):Prop :=
 ∀(pins:List (Addr×Obj)) (s:uj) (σ:St) (H:Hp) (x y:V) (v u:ug) (Q:VK),Inv X pins σ H s->RelV x v->RelV y u->t x y H Q →
  vm (vk X.prog X.w) X.A (inplaceOp op v u) (EP X pins σ Q) X.xe s
section
variable  {X:Cx}{pos:Pos}
def eO (i:Nat):TG:=λv σ H Q=>Q (σ.set i (some v)) H
theorem aH {i:Nat}{x:Str}(hN:X.N.Nodup)(hi:X.N[i]? = some x)(hx:Loc X.env.scope x)(hf:X.fn x=true\/X.env.scope.names.lookup x=some .local:=by first | exact .inl rfl | exact .inr rfl | assumption):PG X (.Name x pos) (eO i):=by
 intro pins s σ H v u Q I r h
 exact wpAny_assign_Name (eM I hN hi hx r (λs' I'=>⟨_,H,I',h⟩) hf)
def sT:TGs:=λvs σ H Q=>vs=[]/\Q σ H
def nI (t:TG)(u:TGs):TGs:=λvs σ H Q=>∃v r,vs=v :: r/\t v σ H λσ' H'=>u r σ' H' Q
theorem pf:PGs X [] sT:=by
 intro pins s σ H vs us Q I r h
 obtain ⟨e,h⟩:=h
 subst e
 cases r
 exact assignInOrder_nil ⟨σ,H,I,h⟩
theorem jI {e:Expr}{es:List Expr}{t:TG}{u:TGs}(h1:PG X e t)(h2:PGs X es u)
  (hs:(assignEach (e :: es) X.env).map (·.2)=assign e X.env :: (assignEach es X.env).map (·.2):=by rfl):PGs X (e :: es) (nI t u):=by
 intro pins s σ H vs us Q I r h
 obtain ⟨v,vr,e1,h⟩:=h
 subst e1
 cases r with
 | cons r rr =>
  rw[hs]
  refine assignInOrder_cons (thn (h1 pins s σ H _ _ _ I r h) λ_ s1 ⟨σ1,H1,I1,q1⟩ =>?_)
  exact h2 pins s1 σ1 H1 _ _ Q I1 rr q1
def sU (K:uh)(n:Nat)(t:TGs):TG:=λv σ H Q=>∃a xs,v = .ref a/\SqT K H a xs/\xs.length=n/\t xs σ H Q
theorem rB {es:List Expr}{k:Nat}{t:TGs}{n:Nat}(hc:X.calm=true)(h:PGs X es t)
  (hn:(assignEach es X.env).length=n:=by rfl) (hst:(assignEach es X.env).findIdx? (·.1)=none:=by rfl):PG X (.Tuple es k pos) (sU X.K n t):=by
 intro pins s σ H v u Q I r hw
 obtain ⟨a,xs,e1,hq,hl,hw⟩:=hw
 subst e1
 cases r
 obtain ⟨its,rv,ht,hz⟩:=I.tuple hq
 refine assign_Tuple_tuple (I.ok.hd hc) ht (by simp[hn, <- hl,rv.length]) hst λh' hx =>?_
 have I1:Inv X pins σ H { s with heap:=h' }:=I.kept (t':=s.toks) λb o e=>hx b o (ve (uO e)) e
 exact h pins _ σ H xs _ Q I1 (by simpa using rv) hw
def gSub (to ti:TE)(t:nH):TG:=λv σ H Q=>to σ H λo H1=>ti σ H1 λi H2=>t o i v H2 λH3=>Q σ H3
theorem nJ {o i:Expr}{to ti:TE}{t:nH}(ho:PE X o to)(hi:PE X i ti)(hs:rA X t)
    (ha:∀v,assign (.Subscript o i pos) X.env v=(do
      let ov ← Ab [v] (eval o X.env)
      let iv ← Ab [v,ov] (eval i X.env)
      standAt pos
      Ab [v,ov,iv] (setItem ov iv v)
      release [v,ov,iv] []):=by intro _;rfl):PG X (.Subscript o i pos) (gSub to ti t):=by
  intro pins s σ H v u Q I r h
  rw[ha]
  refine uf (wB (thn (ho pins s σ H _ I h) λov s1 ⟨x,H1,I1,r1,q1⟩ =>?_))
  refine uf (wB (thn (hi pins s1 σ H1 _ I1 q1) λiv s2 ⟨y,H2,I2,r2,q2⟩ =>?_))
  refine uf (AL (uf (wB (thn (hs pins s2 σ H2 x y v ov iv u _ I2 r1 r2 r q2) λ_ s3 ⟨H3,I3,q3⟩ =>?_))))
  exact wpAny_release ⟨σ,H3,I3,q3⟩
def rC (te:TE)(g:TG):TS:=λD σ H=>te σ H λx H1=>g x σ H1 D.nx
theorem nK {tg e:Expr}{te:TE}{g:TG}(he:PE X e te)(hg:PG X tg g)(hs:swapsWithSole [tg] e pos.line X.env=pure false:=by rfl)(hw:swappedStores [tg] e X.env=pure none:=by rfl)
  (h1:(assignEach [tg] X.env).map (·.2)=[assign tg X.env]:=by rfl):PS X (.Assign [tg] e pos) (rC te g):=by
 intro pins s σ H D I h
 refine wpAny_Assign_stores (thn (he pins s σ H _ I h) λv s1 ⟨x,H1,I1,r1,q1⟩ =>?_) hs hw
 rw[h1]
 exact thn (hg pins s1 σ H1 x v _ I1 r1 q1) λ_ s2 q=>q
theorem ay {i:Nat}{x:Str}{e:Expr}{te:TE}{pos':Pos}(hN:X.N.Nodup)(hi:X.N[i]? = some x)(hx:Loc X.env.scope x)(he:PE X e te)(hs:swapsWith e (some (.Name x pos')) pos.line X.env=pure false:=by rfl)(hf:X.fn x=true\/X.env.scope.names.lookup x=some .local:=by first | exact .inl rfl | exact .inr rfl | assumption) :
  PS X (.Assign [.Name x pos'] e pos) (rC te (eO i)):=by
 intro pins s σ H D I h
 refine Ba (thn (he pins s σ H _ I h) λv s1 ⟨y,H1,I1,r1,q1⟩ =>?_) hs
 exact eM I1 hN hi hx r1 (λs2 I2=>⟨_,H1,I2,q1⟩) hf
def sV (to ti te:TE)(tget:V->V->Hp->VK->Prop)(tip:TIp)(tset:nH):TS:=λD σ H=>to σ H λo H1=>ti σ H1 λi H2=>tget o i H2 λx H3=>te σ H3 λy H4=>tip x y H4 λz H5=>tset o i z H5 λH6=>D.nx σ H6
def sW (X:Cx)(t:V->V->Hp->VK->Prop):Prop :=
 ∀(pins:List (Addr×Obj)) (s:uj) (σ:St) (H:Hp) (o i:V) (ov iv:ug) (Q:VK),Inv X pins σ H s->RelV o ov->RelV i iv->t o i H Q →
  vm (vk X.prog X.w) X.A (getItem ov iv) (EP X pins σ Q) X.xe s
theorem ph {o i e:Expr}{to ti te:TE}{tget:V->V->Hp->VK->Prop}{tip:TIp}{tset:nH}{op:Operator}{tpos:Pos}(ho:PE X o to)(hi:PE X i ti)(hg:sW X tget)(he:PE X e te)(hp:PIp X op tip)(hs:rA X tset)
    (ha:∀ov iv new,augStore i ov iv new=(do Ab [new,ov,iv] (setItem ov iv new);release [new,ov,iv] [];pure .next):=by intros;rfl):PS X (.AugAssign (.Subscript o i tpos) op e pos) (sV to ti te tget tip tset):=by
  intro pins s σ H D I h
  refine wpAny_AugAssign_SubscriptAny (thn (ho pins s σ H _ I h) λov s1 ⟨x1,H1,I1,r1,q1⟩ =>?_) ha
  refine thn (hi pins s1 σ H1 _ I1 q1) λiv s2 ⟨x2,H2,I2,r2,q2⟩ =>?_
  refine thn (hg pins s2 σ H2 x1 x2 ov iv _ I2 r1 r2 q2) λold s3 ⟨x3,H3,I3,r3,q3⟩ =>?_
  refine thn (he pins s3 σ H3 _ I3 q3) λv s4 ⟨x4,H4,I4,r4,q4⟩ =>?_
  refine thn (hp pins s4 σ H4 x3 x4 old v _ I4 r3 r4 q4) λnew s5 ⟨x5,H5,I5,r5,q5⟩ =>?_
  exact thn (hs pins s5 σ H5 x1 x2 x5 ov iv new _ I5 r1 r2 r5 q5) λ_ s6 ⟨H6,I6,q6⟩=>⟨σ,H6,I6,q6⟩
def ipI (f:Int->Int->Int):TIp:=λx y H Q=>∃i j,x = .int i/\y = .int j/\Q (.int (f i j)) H
theorem rD:PIp X .Sub (ipI λi j=>i-j):=by
 intro pins s σ H x y v u Q I r1 r2 h
 obtain ⟨i,j,e1,e2,q⟩:=h
 subst e1;subst e2
 obtain ⟨t,rfl⟩:=r1
 obtain ⟨t',rfl⟩:=r2
 exact isub_int ⟨.int _,H,I.tok _,⟨_,rfl⟩,q⟩
end
section
variable  {X:Cx}{pos:Pos}
def nM (c:TT)(tb:TS):TS:=λD σ H=>∃W:Nat->St->Hp->Prop,(∃m,W m σ H)/\∀m σ H,W m σ H →
 c σ H λb H1=>if b=true then ∃N:St->Hp->Prop,(∀σ' H',N σ' H'->∃m',m'<m/\W m' σ' H')/\tb { D with nx:=N,ct:=N,bk:=D.nx } σ H1 else D.nx σ H1
theorem nN {c:Expr}{body:List Stmt}{tc:TT}{tb:TS}(hp:PassesOwn (vk X.prog X.w) X.A X.env X.xe)(hc:PT X c tc)(hb:PSs X body tb):PS X (.While c body [] pos) (nM tc tb):=by
 intro pins s σ H D I h
 obtain ⟨W,⟨m0,w0⟩,turn⟩:=h
 refine wpAny_While (codeAny_whileLoop (λn s'=>∃σ' H',Inv X pins σ' H' s'/\W n σ' H') ?_ m0 ⟨σ,H,I,w0⟩)
 rintro n s1 ⟨σ1,H1,I1,w1⟩
 refine xp hp (thn (hc pins s1 σ1 H1 _ I1 (turn n σ1 H1 w1)) λb s2 ⟨H2,I2,q2⟩ =>?_)
 cases b with
 | true =>
  obtain ⟨N,hN,q2⟩:=q2
  rw[if_pos rfl]
  refine xp hp (thn (hb pins s2 σ1 H2 _ I2 q2) λf s3 q3 =>?_)
  cases f with
  | next =>
   obtain ⟨σ3,H3,I3,n3⟩:=q3
   obtain ⟨m',hm,w3⟩:=hN σ3 H3 n3
   exact ⟨m',hm,σ3,H3,I3,w3⟩
  | cont =>
   obtain ⟨σ3,H3,I3,n3⟩:=q3
   obtain ⟨m',hm,w3⟩:=hN σ3 H3 n3
   exact ⟨m',hm,σ3,H3,I3,w3⟩
  | brk=>exact q3
  | ret v=>exact q3
 | false =>
  rw[if_neg uP]
  exact xJ ⟨σ1,H2,I2,q2⟩
end
structure It where
 go:Nat->Hp->Prop
 yld:Nat->Hp->V->Hp->Prop
 stop:Nat->Hp->Prop
def ja (X:Cx)(pins:List (Addr×Obj))(H:Hp)(b:Addr):Prop :=
 H b=none/\b≠X.env.locals/\b∉X.fs/\(b∈X.ex\/X.s₀.heap.objs.size<=b)/\(∀x c,X.env.cells.lookup x=some c->c≠b)/\∀p∈X.pn++pins,p.1≠b
theorem Inv.rF {X:Cx}{pins:List (Addr×Obj)}{σ:St}{H H':Hp}{s:uj}{b:Addr}(I:Inv X pins σ H s)(hb:s.heap.objs.size<=b)(hn:H' b=none):ja X pins H' b:=by
 refine ⟨hn,ye (uG I.lt hb),I.rf hb,.inr (vc I.sz hb),λx c e z =>?_,λp hp z =>?_⟩
 ·obtain ⟨v,q⟩:=I.cell x c e
  exact absurd (uG q.lt (by rw[z];exact hb)) (wb _)
 ·exact absurd (uG (uO (I.pin p hp).1) (by rw[z];exact hb)) (wb _)
structure Turn (P:uM)(w:vt)(K:uh)(tg:Expr)(J:It)(fp:List Addr)(it:Addr)(tn:Nat->Heap->Prop):Prop where
 mem:it∈fp
 obj:∀i h,tn i h->∀b∈fp,∃o,h.get? b=some o/\∀v,o.data ≠ .cell v
 keep:∀i h h',tn i h->(∀b∈fp,∀o,h.get? b=some o->h'.get? b=some o)->tn i h'
 item:∀(X:Cx),X.prog=P->X.w=w->X.K=K->X.calm=true->∀(i:Nat) (pins:List (Addr×Obj)) (s:uj) (σ:St) (H:Hp) (E:ug->uj->Prop),Inv X pins σ H s->(∀b∈fp,ja X pins H b)->tn i s.heap->J.go i H →
  vm (vk P w) X.A (pyNext (.ref it)) (λr s1=>∃u,r=some u ∧
   vm (vk P w) X.A (letOwnedTupleGo tg (.ref it) u) (λ_ s2=>∃x H',Inv X pins σ H' s2/\RelV x u/\J.yld i H x H'/\tn (i+1) s2.heap/\∀b∈fp,H' b=none) E s1) E s
 done:∀(X:Cx),X.prog=P->X.w=w->X.K=K->X.calm=true->∀(i:Nat) (pins:List (Addr×Obj)) (s:uj) (σ:St) (H:Hp) (E:ug->uj->Prop),Inv X pins σ H s->(∀b∈fp,ja X pins H b)->tn i s.heap->J.stop i H →
  vm (vk P w) X.A (pyNext (.ref it)) (λr s1=>r=none/\Inv X pins σ H s1) E s
 self:∀(A:vz) (i:Nat) (s:uj) (Q:ug->uj->Prop) (E:ug->uj->Prop),tn i s.heap->Q (.ref it) s->vm (vk P w) A (pyIter (.ref it)) Q E s
abbrev TI:=St->Hp->(It->Hp->Prop)->Prop
def PIE (X:Cx)(pins:List (Addr×Obj))(σ:St)(tg:Expr)(R:It->Hp->Prop)(itv:ug)(s2:uj):Prop :=
 ∃(it:Addr) (fp:List Addr) (tn:Nat->Heap->Prop) (J:It) (H':Hp),itv = .ref it/\Inv X pins σ H' s2/\Turn X.prog X.w X.K tg J fp it tn/\tn 0 s2.heap/\(∀b∈fp,ja X pins H' b)/\R J H'
def PI (X:Cx)(tg iter:Expr)(wi:TI):Prop :=
 ∀(pins:List (Addr×Obj)) (s:uj) (σ:St) (H:Hp) (R:It->Hp->Prop),Inv X pins σ H s->wi σ H R →
  vm (vk X.prog X.w) X.A (eval iter X.env) (λv s1=>vm (vk X.prog X.w) X.A (pyIter v) (PIE X pins σ tg R) X.xe s1) X.xe s
theorem nO {M:Model}{A:vz}{E:ug->uj->Prop}{s:uj}{tg:Expr}{it:Addr}{u:ug}{o:Obj}{n:String}{vs:Array ug}{Q:Unit->uj->Prop}(ho:s.heap.get? it=some o)(hc:o.cls = .type n)(hd:o.data = .fields vs)
    (hn:["enumerate", "zip", "dict_itemiterator", "dict_reverseitemiterator", "odict_iterator", "itertools.zip_longest", "itertools.pairwise"].contains n=false) (hQ:Q () s):vm M A (letOwnedTupleGo tg (.ref it) u) Q E s:=by
  unfold letOwnedTupleGo
  cases tg <;> first
    | exact uD hQ
    | (cases u <;> first
        | exact uD hQ
        | (refine uf (BP ho ?_)
           rw[hc,hd]
           show vm M A (if (["enumerate", "zip", "dict_itemiterator", "dict_reverseitemiterator", "odict_iterator", "itertools.zip_longest", "itertools.pairwise"].contains n && vs[0]? == some (Al _))=true then _ else _) Q E s
           rw[if_neg (by intro h;rw[hn,yY] at h;cases h)]
           exact uD hQ))
def Itl (K:uh)(a:Addr):It :=
 ⟨λi H=>∃xs x,SqL K H a xs/\xs[i]? = some x,λi H x H'=>H'=H/\∀xs,SqL K H a xs->xs[i]? = some x,λi H=>∃xs,SqL K H a xs/\xs.length<=i⟩
def Itt (K:uh)(a:Addr):It :=
 ⟨λi H=>∃xs x,SqT K H a xs/\xs[i]? = some x,λi H x H'=>H'=H/\∀xs,SqT K H a xs->xs[i]? = some x,λi H=>∃xs,SqT K H a xs/\xs.length<=i⟩
def Itr (lo:Int)(n:Nat):It:=⟨λi _=>i<n,λi H x H'=>H'=H/\x = .int (lo+i),λi _=>n<=i⟩
theorem mv {P:uM}{w:vt}{K:uh}{tg:Expr}(a it:Addr):Turn P w K tg (Itl K a) [it] it (λi h=>h.IsListIter it a i) where
 mem:=by simp
 obj:=λi h st b hb=>by
  have e:b=it:=by simpa using hb
  subst e
  obtain ⟨o,e,c,d⟩:=st
  exact ⟨o,e,λv z=>by rw[d] at z;cases z⟩
 keep:=λi h h' st k=>st.at λo e=>k it (by simp) o e
 item:=by
  intro X hP hw hK hc i pins s σ H E I hf st hg
  subst hP hw hK
  obtain ⟨xs,x,hq,hx⟩:=hg
  obtain ⟨its,rv,p,hz⟩:=I.list hq
  obtain ⟨u,hu,ru⟩:=rv.get hx
  obtain ⟨f0,f1,f2,f3,f4,f5⟩:=hf it (by simp)
  refine wpAny_pyNext_list_item st p.isList (x:=u) (by simpa using hu) λh' st' sb =>?_
  have I1:Inv X pins σ H { s with heap:=h' }:=I.turned (t':=s.toks) (λb o hb e=>(sb.2 b hb).trans e) f0 f1 f3 f4 f5
  obtain ⟨o,e,c,d⟩:=id st'
  exact ⟨u,rfl,nO (s:={ s with heap:=h' }) e c d (by decide) ⟨x,H,I1,ru,⟨rfl,λys hy=>by rw[I.nG hy hq];exact hx⟩,st',λb hb=>(hf b hb).1⟩⟩
 done:=by
  intro X hP hw hK hc i pins s σ H E I hf st hg
  subst hP hw hK
  obtain ⟨xs,hq,hx⟩:=hg
  obtain ⟨its,rv,p,hz⟩:=I.list hq
  obtain ⟨f0,f1,f2,f3,f4,f5⟩:=hf it (by simp)
  have hl:=rv.length
  exact wpAny_pyNext_list_end (I.ok.hd hc) st p.isList (by simp;lia) λh' eb=>⟨rfl,I.turned (t':=s.toks) (λb o hb e=>eb b o hb e) f0 f1 f3 f4 f5⟩
 self:=λ_ _ _ _ _ st h=>wpAny_pyIter_listiter st h
theorem kB {P:uM}{w:vt}{K:uh}{tg:Expr}(a it:Addr):Turn P w K tg (Itt K a) [it] it (λi h=>h.IsTupleIter it a i) where
 mem:=by simp
 obj:=λi h st b hb=>by
  have e:b=it:=by simpa using hb
  subst e
  obtain ⟨o,e,c,d⟩:=st
  exact ⟨o,e,λv z=>by rw[d] at z;cases z⟩
 keep:=λi h h' st k=>st.at λo e=>k it (by simp) o e
 item:=by
  intro X hP hw hK hc i pins s σ H E I hf st hg
  subst hP hw hK
  obtain ⟨xs,x,hq,hx⟩:=hg
  obtain ⟨its,rv,p,hz⟩:=I.tuple hq
  obtain ⟨u,hu,ru⟩:=rv.get hx
  obtain ⟨f0,f1,f2,f3,f4,f5⟩:=hf it (by simp)
  refine wpAny_pyNext_tuple_item st (show s.heap.IsTuple a its.toArray from p) (x:=u) (by simpa using hu) λh' st' sb =>?_
  have I1:Inv X pins σ H { s with heap:=h' }:=I.turned (t':=s.toks) (λb o hb e=>(sb.2 b hb).trans e) f0 f1 f3 f4 f5
  obtain ⟨o,e,c,d⟩:=id st'
  exact ⟨u,rfl,nO (s:={ s with heap:=h' }) e c d (by decide) ⟨x,H,I1,ru,⟨rfl,λys hy=>by rw[I.iu hy hq];exact hx⟩,st',λb hb=>(hf b hb).1⟩⟩
 done:=by
  intro X hP hw hK hc i pins s σ H E I hf st hg
  subst hP hw hK
  obtain ⟨xs,hq,hx⟩:=hg
  obtain ⟨its,rv,p,hz⟩:=I.tuple hq
  obtain ⟨f0,f1,f2,f3,f4,f5⟩:=hf it (by simp)
  have hl:=rv.length
  exact wpAny_pyNext_tuple_end (I.ok.hd hc) st (show s.heap.IsTuple a its.toArray from p) (by simp;lia) λh' eb=>⟨rfl,I.turned (t':=s.toks) (λb o hb e=>eb b o hb e) f0 f1 f3 f4 f5⟩
 self:=λ_ _ _ _ _ st h=>wpAny_pyIter_tupleiter st h
theorem kC {P:uM}{w:vt}{K:uh}{tg:Expr}(it:Addr)(lo:Int)(n:Nat):Turn P w K tg (Itr lo n) [it] it (λi h=>IsRangeIter h it (lo+(i:Nat)*1) ((n:Int)-(i:Nat)) 1) where
 mem:=by simp
 obj:=λi h st b hb=>by
  have e:b=it:=by simpa using hb
  subst e
  exact ⟨_,st,λv z=>by
   have z':Data.fields _=Data.cell v:=z
   cases z'⟩
 keep:=λi h h' st k=>k it (by simp) _ st
 item:=by
  intro X hP hw hK hc i pins s σ H E I hf st hg
  subst hP hw hK
  obtain ⟨f0,f1,f2,f3,f4,f5⟩:=hf it (by simp)
  have W:=Walks.range (prog:=X.prog) (w:=X.w) (I.ok.hd hc) it lo 1 n
  refine W.item i s _ _ hg st λv h' tk hv st' kk =>?_
  obtain ⟨t,rfl⟩:=hv
  have I1:Inv X pins σ H { s with heap:=h',toks:=tk }:=I.turned (λb o hb e=>kk b o (by simpa using hb) e) f0 f1 f3 f4 f5
  refine ⟨_,rfl,nO (s:={ s with heap:=h',toks:=tk }) (n := "range_iterator") st' rfl rfl (by decide) ⟨.int (lo+i),H,I1,⟨t,?_⟩,⟨rfl,rfl⟩,st',λb hb=>(hf b hb).1⟩⟩
  rw[Int.mul_one]
 done:=by
  intro X hP hw hK hc i pins s σ H E I hf st hg
  subst hP hw hK
  obtain ⟨f0,f1,f2,f3,f4,f5⟩:=hf it (by simp)
  exact wpAny_pyNext_range_end (I.ok.hd hc) st (by have:n<=i:=hg;lia) λh' eb=>⟨rfl,I.turned (t':=s.toks) (λb o hb e=>eb b o hb e) f0 f1 f3 f4 f5⟩
 self:=λ_ _ _ _ _ st h=>wpAny_pyIter_rangeiter st h
open PySem PySem.Spec PyProof.Rows
section
variable  {X:Cx}{tg:Expr}
def sZ (K:uh)(tl:TE):TI:=λσ H R=>tl σ H λx H1=>∃a,x = .ref a/\(∃xs,SqL K H1 a xs)/\R (Itl K a) H1
def iTup (K:uh)(tl:TE):TI:=λσ H R=>tl σ H λx H1=>∃a,x = .ref a/\(∃xs,SqT K H1 a xs)/\R (Itt K a) H1
theorem dG {l:Expr}{tl:TE}(hl:PE X l tl):PI X tg l (sZ X.K tl):=by
 intro pins s σ H R I h
 refine thn (hl pins s σ H _ I h) λv s1 ⟨x,H1,I1,r1,q1⟩ =>?_
 obtain ⟨a,e,⟨xs,hq⟩,q⟩:=q1
 subst e
 cases r1
 obtain ⟨its,rv,p,hz⟩:=I1.list hq
 refine Bb p.isList ?_
 refine ⟨s1.heap.objs.size,[s1.heap.objs.size],_,_,H1,rfl,I1.kept (t':=s1.toks) λb o e=>uq _ e,mv a _,⟨_,uU _ rfl,rfl,rfl⟩,λb hb =>?_,q⟩
 have e:b=s1.heap.objs.size:=by simpa using hb
 subst e
 exact I1.rF (ur _) (I1.hok.fresh (ur _))
theorem ef {l:Expr}{tl:TE}(hl:PE X l tl):PI X tg l (iTup X.K tl):=by
 intro pins s σ H R I h
 refine thn (hl pins s σ H _ I h) λv s1 ⟨x,H1,I1,r1,q1⟩ =>?_
 obtain ⟨a,e,⟨xs,hq⟩,q⟩:=q1
 subst e
 cases r1
 obtain ⟨its,rv,p,hz⟩:=I1.tuple hq
 refine AM (show s1.heap.IsTuple a its.toArray from p) ?_
 refine ⟨s1.heap.objs.size,[s1.heap.objs.size],_,_,H1,rfl,I1.kept (t':=s1.toks) λb o e=>uq _ e,kB a _,⟨_,uU _ rfl,rfl,rfl⟩,λb hb =>?_,q⟩
 have e:b=s1.heap.objs.size:=by simpa using hb
 subst e
 exact I1.rF (ur _) (I1.hok.fresh (ur _))
theorem nP {pins:List (Addr×Obj)}{σ:St}{H:Hp}{s:uj}{R:It->Hp->Prop}{E:ug->uj->Prop}{lo hi:Int}{t u v:Tok}{tk:Nat}(I:Inv X pins σ H s)(h1 : -(2 ^ 62)<=lo)(h2:lo<2 ^ 62)(h3 : -(2 ^ 62)<=hi)(h4:hi<2 ^ 62)
  (q:R (Itr lo (hi-lo).toNat) H):vm (vk X.prog X.w) X.A (pyIter (.ref s.heap.objs.size)) (PIE X pins σ tg R) E { s with heap:=s.heap.push { cls :=.type "range",data :=.fields #[.int lo t,.int hi u,.int 1 v] },toks:=tk }:=by
 refine wpAny_pyIter_range (IsRange.new ..) (small_one h1 h2 h3 h4) ?_
 have I1:Inv X pins σ H { s with heap:=s.heap.push { cls :=.type "range",data :=.fields #[.int lo t,.int hi u,.int 1 v] },toks:=tk }:=I.kept λb o e=>uq _ e
 refine ⟨(s.heap.push { cls :=.type "range",data :=.fields #[.int lo t,.int hi u,.int 1 v] }).objs.size,[(s.heap.push { cls :=.type "range",data :=.fields #[.int lo t,.int hi u,.int 1 v] }).objs.size],_,_,H,rfl,
  I1.kept (t':=tk) λb o e=>uq _ e,kC _ lo (hi-lo).toNat,?_,λb hb =>?_,q⟩
 ·have e1:lo+((0:Nat):Int)*1=lo:=by simp
  have e2:(((hi-lo).toNat:Nat):Int)-((0:Nat):Int)=Builtin.Range.rangeSize lo hi 1:=by rw[rangeSize_one];split <;> lia
  show IsRangeIter _ _ (lo+((0:Nat):Int)*1) ((((hi-lo).toNat:Nat):Int)-((0:Nat):Int)) 1
  rw[e1,e2]
  exact uU _ rfl
 ·have e:b=(s.heap.push { cls :=.type "range",data :=.fields #[.int lo t,.int hi u,.int 1 v] }).objs.size:=by simpa using hb
  subst e
  exact I1.rF (ur _) (I1.hok.fresh (ur _))
def td (ta:TA):TI:=λσ H R=>ta σ H λvs H1=>∃j:Int,vs=[.int j] /\ -(2 ^ 62)<=j/\j<2 ^ 62/\R (Itr 0 j.toNat) H1
theorem aY {a:Expr}{ta:TA}{p pos:Pos}(hg:Gl X "range")(hm:X.mg "range" = none)(ha:PA X [a] ta)(hs:vG [a] X.env=[(false,eval a X.env)]:=by rfl):PI X tg (.Call (.Name "range" p) [a] [] pos) (td ta):=by
 intro pins s σ H R I h
 refine Call_ (i8 I hg hm boot_range (yH (thn (ha pos pins s σ H _ I h) λus s1 ⟨vs,H1,I1,r1,q1⟩ =>?_) hs rfl))
 obtain ⟨j,e,q1,q2,q⟩:=q1
 subst e
 cases r1 with
 | cons r rr =>
  cases rr
  obtain ⟨t,rfl⟩:=r
  exact call_range_1 (nP I1 (by lia) (by lia) q1 q2 (by simpa using q))
def tFor (wi:TI)(g:TG)(tb:TS):TS:=λD σ H=>wi σ H λJ H1=>∃W:Nat->Nat->St->Hp->Prop,(∃m,W 0 m σ H1)/\∀i m σ H,W i m σ H →
 (J.stop i H/\D.nx σ H)\/(J.go i H/\∃N:St->Hp->Prop,(∀σ' H',N σ' H'->∃m',m'<m/\W (i+1) m' σ' H')/\∀x H',J.yld i H x H'->g x σ H' λσ2 H2=>tb { D with nx:=N,ct:=N,bk:=D.nx } σ2 H2)
def eA (fp:List Addr)(h:Heap):List (Addr×Obj):=fp.filterMap λb=>(h.get? b).map λo=>(b,o)
theorem cu {fp:List Addr}{h:Heap}{b:Addr}{o:Obj}(hb:b∈fp)(e:h.get? b=some o):(b,o)∈eA fp h:=yk.mpr ⟨b,hb,by rw[e];rfl⟩
theorem iw {fp:List Addr}{h:Heap}{p:Addr×Obj}(hp:p∈eA fp h):p.1∈fp/\h.get? p.1=some p.2:=by
 obtain ⟨b,hb,e⟩:=yk.mp hp
 cases q:h.get? b with
 | none=>rw[q] at e;cases e
 | some o =>
  rw[q] at e
  have e':(b,o)=p:=vw e
  subst e'
  exact ⟨hb,q⟩
theorem Inv.pinned {pins:List (Addr×Obj)}{σ:St}{H:Hp}{s:uj}{fp:List Addr}(I:Inv X pins σ H s)(hf:∀b∈fp,ja X pins H b)(ho:∀b∈fp,∃o,s.heap.get? b=some o/\∀v,o.data ≠ .cell v):Inv X (pins++eA fp s.heap) σ H s :=
 I.eL λp hp=>(uC.mp hp).elim (λz=>I.pin p (u5 _ z)) λz=>by
  obtain ⟨hb,e⟩:=iw z
  obtain ⟨f0,f1,f2,_⟩:=hf p.1 hb
  obtain ⟨o,e',d⟩:=ho p.1 hb
  rw[e] at e';cases e'
  exact ⟨e,f0,f1,f2,d⟩
theorem Inv.cO {pins pl:List (Addr×Obj)}{σ:St}{H:Hp}{s:uj}(I:Inv X (pins++pl) σ H s):Inv X pins σ H s:=I.eL λp hp=>I.pin p (u5 _ (vS _ hp))
theorem cc {iter:Expr}{body:List Stmt}{wi:TI}{g:TG}{tb:TS}{pos:Pos}(hp:PassesOwn (vk X.prog X.w) X.A X.env X.xe)(hc:X.calm=true)(hi:PI X tg iter wi)(hg:PG X tg g)(hb:PSs X body tb)
  (hs:∀x,foldedSetIterable iter X.env x=pure x:=by intro _;rfl):PS X (.For tg iter body [] pos) (tFor wi g tb):=by
 intro pins s σ H D I h
 refine wpAny_For (thn (hi pins s σ H _ I h) λv s1 h1=>thn h1 λitv s2 h2 =>?_) hs
 obtain ⟨it,fp,tn,J,H2,e,I2,T,st2,f2,W,⟨m0,w0⟩,turn⟩:=h2
 subst e
 have stat:∀{H':Hp},(∀b∈fp,H' b=none)->∀b∈fp,ja X pins H' b:=λhn b hb=>⟨hn b hb,(f2 b hb).2⟩
 refine codeAny_forLoop_any (λn s'=>∃i σ' H',Inv X pins σ' H' s'/\tn i s'.heap/\(∀b∈fp,H' b=none)/\W i n σ' H') ?_ m0 ⟨0,σ,H2,I2,st2,λb hb=>(f2 b hb).1,w0⟩
 rintro n s3 ⟨i,σ3,H3,I3,st3,fr3,w3⟩
 rcases turn i n σ3 H3 w3 with ⟨stop,qn⟩ | ⟨go,N,hN,step⟩
 ·refine xp hp (thn (T.done X rfl rfl rfl hc i pins s3 σ3 H3 X.xe I3 (stat fr3) st3 stop) λr s4 ⟨hr,I4⟩ =>?_)
  subst hr
  exact xJ ⟨σ3,H3,I4,qn⟩
 ·refine xp hp (thn (T.item X rfl rfl rfl hc i pins s3 σ3 H3 X.xe I3 (stat fr3) st3 go) λr s4 ⟨u,hr,h4⟩ =>?_)
  subst hr
  refine xp hp (thn h4 λ_ s5 ⟨x,H5,I5,r5,y5,st5,fr5⟩ =>?_)
  have I5':=I5.pinned (stat fr5) (T.obj _ _ st5)
  refine xp hp (thn (hg _ s5 σ3 H5 x u _ I5' r5 (step x H5 y5)) λ_ s6 ⟨σ6,H6,I6,q6⟩ =>?_)
  refine xp hp (thn (hb _ s6 σ6 H6 _ I6 q6) λf s7 q7 =>?_)
  have again:∀{σ7:St} {H7:Hp},Inv X (pins++eA fp s5.heap) σ7 H7 s7->N σ7 H7->∃m,m<n/\∃i σ' H',Inv X pins σ' H' s7/\tn i s7.heap/\(∀b∈fp,H' b=none)/\W i m σ' H':=λ{σ7 H7} I7 n7=>by
   obtain ⟨m',hm,w7⟩:=hN σ7 H7 n7
   refine ⟨m',hm,i+1,σ7,H7,I7.cO,T.keep _ _ _ st5 λb hb o e=>(I7.pin (b,o) (u5 _ (u5 _ (cu hb e)))).1,λb hb =>?_,w7⟩
   obtain ⟨o,e,d⟩:=T.obj _ _ st5 b hb
   exact (I7.pin (b,o) (u5 _ (u5 _ (cu hb e)))).2.1
  cases f with
  | next=>obtain ⟨σ7,H7,I7,n7⟩:=q7;exact again I7 n7
  | cont=>obtain ⟨σ7,H7,I7,n7⟩:=q7;exact again I7 n7
  | brk=>obtain ⟨σ7,H7,I7,q7⟩:=q7;exact ⟨σ7,H7,I7.cO,q7⟩
  | ret v=>obtain ⟨x7,σ7,H7,I7,r7,q7⟩:=q7;exact ⟨x7,σ7,H7,I7.cO,r7,q7⟩
end
theorem nQ {K:uh}{a:Addr}{xs:List V}{g:TG}{tb:TS}{D:Ends}{σ:St}{H:Hp}(Pv:Nat->St->Hp->Prop)(h0:Pv 0 σ H)(hl:∀i σ H,i<=xs.length->Pv i σ H->SqL K H a xs)
  (hs:∀i x σ H,xs[i]? = some x->Pv i σ H->g x σ H λσ2 H2=>tb { D with nx:=Pv (i+1),ct:=Pv (i+1),bk:=D.nx } σ2 H2) (hd:∀σ H,Pv xs.length σ H->D.nx σ H) :
  ∃W:Nat->Nat->St->Hp->Prop,(∃m,W 0 m σ H)/\∀i m σ H,W i m σ H →
   ((Itl K a).stop i H/\D.nx σ H)\/((Itl K a).go i H/\∃N:St->Hp->Prop,(∀σ' H',N σ' H'->∃m',m'<m/\W (i+1) m' σ' H')/\∀x H',(Itl K a).yld i H x H'->g x σ H' λσ2 H2=>tb { D with nx:=N,ct:=N,bk:=D.nx } σ2 H2):=by
 refine ⟨λi m σ H=>m=xs.length-i/\i<=xs.length/\Pv i σ H,⟨xs.length,by simp,vv _,h0⟩,?_⟩
 rintro i m σ H ⟨rfl,hi,p⟩
 have q:=hl i σ H hi p
 by_cases hlt:i<xs.length
 ·refine .inr ⟨⟨xs,xs[i],q,by simp[hlt]⟩,Pv (i+1),λσ' H' p'=>⟨xs.length-(i+1),by lia,rfl,hlt,p'⟩,λx H' y =>?_⟩
  obtain ⟨e,y⟩:=y
  subst e
  exact hs i x σ _ (y xs q) p
 ·have e:i=xs.length:=by lia
  subst e
  exact .inl ⟨⟨xs,q,ur _⟩,hd σ H p⟩
theorem lJ {K:uh}{a:Addr}{xs:List V}{g:TG}{tb:TS}{D:Ends}{σ:St}{H:Hp}(Pv:Nat->St->Hp->Prop)(h0:Pv 0 σ H)(hl:∀i σ H,i<=xs.length->Pv i σ H->SqT K H a xs)
  (hs:∀i x σ H,xs[i]? = some x->Pv i σ H->g x σ H λσ2 H2=>tb { D with nx:=Pv (i+1),ct:=Pv (i+1),bk:=D.nx } σ2 H2) (hd:∀σ H,Pv xs.length σ H->D.nx σ H) :
  ∃W:Nat->Nat->St->Hp->Prop,(∃m,W 0 m σ H)/\∀i m σ H,W i m σ H →
   ((Itt K a).stop i H/\D.nx σ H)\/((Itt K a).go i H/\∃N:St->Hp->Prop,(∀σ' H',N σ' H'->∃m',m'<m/\W (i+1) m' σ' H')/\∀x H',(Itt K a).yld i H x H'->g x σ H' λσ2 H2=>tb { D with nx:=N,ct:=N,bk:=D.nx } σ2 H2):=by
 refine ⟨λi m σ H=>m=xs.length-i/\i<=xs.length/\Pv i σ H,⟨xs.length,by simp,vv _,h0⟩,?_⟩
 rintro i m σ H ⟨rfl,hi,p⟩
 have q:=hl i σ H hi p
 by_cases hlt:i<xs.length
 ·refine .inr ⟨⟨xs,xs[i],q,by simp[hlt]⟩,Pv (i+1),λσ' H' p'=>⟨xs.length-(i+1),by lia,rfl,hlt,p'⟩,λx H' y =>?_⟩
  obtain ⟨e,y⟩:=y
  subst e
  exact hs i x σ _ (y xs q) p
 ·have e:i=xs.length:=by lia
  subst e
  exact .inl ⟨⟨xs,q,ur _⟩,hd σ H p⟩
theorem bG {lo:Int}{n:Nat}{g:TG}{tb:TS}{D:Ends}{σ:St}{H:Hp}(Pv:Nat->St->Hp->Prop)(h0:Pv 0 σ H)
  (hs:∀i σ H,i<n->Pv i σ H->g (.int (lo+i)) σ H λσ2 H2=>tb { D with nx:=Pv (i+1),ct:=Pv (i+1),bk:=D.nx } σ2 H2) (hd:∀σ H,Pv n σ H->D.nx σ H) :
  ∃W:Nat->Nat->St->Hp->Prop,(∃m,W 0 m σ H)/\∀i m σ H,W i m σ H →
   ((Itr lo n).stop i H/\D.nx σ H)\/((Itr lo n).go i H/\∃N:St->Hp->Prop,(∀σ' H',N σ' H'->∃m',m'<m/\W (i+1) m' σ' H')/\∀x H',(Itr lo n).yld i H x H'->g x σ H' λσ2 H2=>tb { D with nx:=N,ct:=N,bk:=D.nx } σ2 H2):=by
 refine ⟨λi m σ H=>m=n-i/\i<=n/\Pv i σ H,⟨n,by simp,vv _,h0⟩,?_⟩
 rintro i m σ H ⟨rfl,hi,p⟩
 by_cases hlt:i<n
 ·refine .inr ⟨hlt,Pv (i+1),λσ' H' p'=>⟨n-(i+1),by lia,rfl,hlt,p'⟩,λx H' y =>?_⟩
  obtain ⟨e,y⟩:=y
  subst e y
  exact hs i σ _ hlt p
 ·have e:i=n:=by lia
  subst e
  exact .inl ⟨ur _,hd σ H p⟩
theorem nS {c:TT}{tb:TS}{D:Ends}{σ:St}{H:Hp}(Pv:St->Hp->Prop)(μ:St->Hp->Nat)(h0:Pv σ H)
  (hs:∀σ H,Pv σ H->c σ H λb H1=>if b=true then tb { D with nx:=λσ' H'=>Pv σ' H' /\ μ σ' H'<μ σ H,ct:=λσ' H'=>Pv σ' H' /\ μ σ' H'<μ σ H,bk:=D.nx } σ H1 else D.nx σ H1)
  (mono:∀σ H Q Q',(∀b H1,Q b H1->Q' b H1)->c σ H Q->c σ H Q'):nM c tb D σ H:=by
 refine ⟨λm σ H=>m=μ σ H/\Pv σ H,⟨_,rfl,h0⟩,?_⟩
 rintro m σ H ⟨rfl,p⟩
 refine mono σ H _ _ (λb H1 q =>?_) (hs σ H p)
 cases b with
 | true=>exact ⟨_,λσ' H' ⟨p',l⟩=>⟨_,l,rfl,p'⟩,q⟩
 | false=>exact q
open PySem PySem.Spec PyProof.Rows
abbrev R2:=V->V->Hp->VK->Prop
def OpR (X:Cx)(f:ug->ug->Sem ug)(r:R2):Prop :=
 ∀(pins:List (Addr×Obj)) (s:uj) (σ:St) (H:Hp) (x y:V) (v u:ug) (Q:VK),Inv X pins σ H s->RelV x v->RelV y u->r x y H Q →
  vm (vk X.prog X.w) X.A (f v u) (EP X pins σ Q) X.xe s
def bO (X:Cx)(f:ug)(r:List V->Hp->VK->Prop):Prop :=
 ∀(pins:List (Addr×Obj)) (s:uj) (σ:St) (H:Hp) (xs:List V) (us:List ug) (Q:VK),Inv X pins σ H s->Vals xs us->r xs H Q →
  vm (vk X.prog X.w) X.A (call f us) (EP X pins σ Q) X.xe s
def TruR (X:Cx)(r:V->Hp->(Bool->Hp->Prop)->Prop):Prop :=
 ∀(pins:List (Addr×Obj)) (s:uj) (σ:St) (H:Hp) (x:V) (v:ug) (Q:Bool->Hp->Prop),Inv X pins σ H s->RelV x v->r x H Q →
  vm (vk X.prog X.w) X.A (truthy v) (TP X pins σ Q) X.xe s
def tOp (r:R2)(ta tb:TE):TE:=λσ H Q=>ta σ H λx H1=>tb σ H1 λy H2=>r x y H2 Q
def rI (C:Int->Int->Prop)(g:Int->Int->V):R2:=λx y H Q=>∃i j,x = .int i/\y = .int j/\C i j/\Q (g i j) H
def rI0 (g:Int->Int->V):R2:=λx y H Q=>∃i j,x = .int i/\y = .int j/\Q (g i j) H
section
variable  {X:Cx}{a b c:Expr}{ta tb tc:TE}{pos:Pos}
theorem rG (ha:PE X a ta)(hb:PE X b tb){pins:List (Addr×Obj)}{s:uj}{σ:St}{H:Hp}{R:V->V->Hp->Prop}(I:Inv X pins σ H s)
  (h:ta σ H λx H1=>tb σ H1 λy H2=>R x y H2) {Q:ug->uj->Prop} {f:ug->ug->Sem ug}
  (hf:∀v u s2 x y H2,Inv X pins σ H2 s2->RelV x v->RelV y u->R x y H2->vm (vk X.prog X.w) X.A (f v u) Q X.xe s2) :
  vm (vk X.prog X.w) X.A (eval a X.env) (λv s₁=>vm (vk X.prog X.w) X.A (eval b X.env) (λu s₂=>vm (vk X.prog X.w) X.A (f v u) Q X.xe s₂) X.xe s₁) X.xe s:=by
 refine thn (ha pins s σ H _ I h) λv s1 ⟨x,H1,I1,r1,q1⟩ =>?_
 refine thn (hb pins s1 σ H1 _ I1 q1) λu s2 ⟨y,H2,I2,r2,q2⟩ =>?_
 exact hf v u s2 x y H2 I2 r1 r2 q2
theorem aP {op:Operator}{r:R2}(ho:OpR X (binaryOp op) r)(ha:PE X a ta)(hb:PE X b tb):PE X (.BinOp a op b pos) (tOp r ta tb):=by
 intro pins s σ H Q I h
 exact wpAny_BinOp (rG ha hb I h λv u s2 x y H2 I2 rx ry q=>ho pins s2 σ H2 x y v u Q I2 rx ry q)
theorem opI {f:ug->ug->Sem ug}{C:Int->Int->Prop}{g:Int->Int->Int}
  (rule:∀(i j:Int) (t u:Tok) (s:uj) (Q:ug->uj->Prop) (E:ug->uj->Prop),C i j->Q (.int (g i j) s.toks) { s with toks:=s.toks+1 }->vm (vk X.prog X.w) X.A (f (.int i t) (.int j u)) Q E s) :
  OpR X f (rI C λi j =>.int (g i j)):=by
 intro pins s σ H x y v u Q I rx ry h
 obtain ⟨i,j,rfl,rfl,hc,q⟩:=h
 obtain ⟨t,rfl⟩:=rx
 obtain ⟨t',rfl⟩:=ry
 exact rule i j t t' s _ _ hc ⟨.int (g i j),H,I.tok _,⟨_,rfl⟩,q⟩
theorem tf {f:ug->ug->Sem ug}{g:Int->Int->Int}
  (rule:∀(i j:Int) (t u:Tok) (s:uj) (Q:ug->uj->Prop) (E:ug->uj->Prop),Q (.int (g i j) s.toks) { s with toks:=s.toks+1 }->vm (vk X.prog X.w) X.A (f (.int i t) (.int j u)) Q E s) :
  OpR X f (rI0 λi j =>.int (g i j)):=by
 intro pins s σ H x y v u Q I rx ry h
 obtain ⟨i,j,rfl,rfl,q⟩:=h
 obtain ⟨t,rfl⟩:=rx
 obtain ⟨t',rfl⟩:=ry
 exact rule i j t t' s _ _ ⟨.int (g i j),H,I.tok _,⟨_,rfl⟩,q⟩
theorem pk {f:ug->ug->Sem ug}{g:Int->Int->Bool}
  (rule:∀(i j:Int) (t u:Tok) (s:uj) (Q:ug->uj->Prop) (E:ug->uj->Prop),Q (.bool (g i j)) s->vm (vk X.prog X.w) X.A (f (.int i t) (.int j u)) Q E s) :
  OpR X f (rI0 λi j =>.bl (g i j)):=by
 intro pins s σ H x y v u Q I rx ry h
 obtain ⟨i,j,rfl,rfl,q⟩:=h
 obtain ⟨t,rfl⟩:=rx
 obtain ⟨t',rfl⟩:=ry
 exact rule i j t t' s _ _ ⟨.bl (g i j),H,I,rfl,q⟩
def CDiv (i j:Int):Prop:=0<j/\j<1073741824
def CPow (i j:Int):Prop:=0<=j/\j<=1000000/\i.natAbs<2 ^ 64
def rH (i j:Int):Prop:=(-(2 ^ 64)<i/\i<2 ^ 64)\/(-(2 ^ 64)<j/\j<2 ^ 64)
theorem rH.ok {i j:Int}(h:rH i j):IntMulOk i j:=by
 rcases h with ⟨h1,h2⟩ | ⟨h1,h2⟩
 ·exact .of_left (intBits_le_64 h1 h2)
 ·exact .of_right (intBits_le_64 h1 h2)
theorem cT:OpR X (binaryOp .Add) (rI0 λi j =>.int (i+j)):=tf λ_ _ _ _ _ _ _ q=>add_int q
theorem nT:OpR X (binaryOp .Sub) (rI0 λi j =>.int (i-j)):=tf λ_ _ _ _ _ _ _ q=>sub_int q
theorem gm:OpR X (binaryOp .Mult) (rI rH λi j =>.int (i*j)):=opI λ_ _ _ _ _ _ _ hc q=>mul_int q hc.ok
theorem pq:OpR X (binaryOp .FloorDiv) (rI CDiv λi j =>.int (i/j)):=opI λi j _ _ _ _ _ hc q=>by
 have h1:(0:Int)<j:=hc.1
 have h2:j<1073741824:=hc.2
 exact floordiv_int (by lia) (by rw[xT i (by lia)];exact q) (.inl (PyProof.noPylong_small (by lia)))
theorem cU:OpR X (binaryOp .Mod) (rI (λ_ j=>0<j) λi j =>.int (i%j)):=opI λi j _ _ _ _ _ hc q=>by
 have h1:(0:Int)<j:=hc
 exact mod_int' (by lia) (by rw[yO i (by lia)];exact q)
theorem fu:OpR X (binaryOp .Pow) (rI CPow λi j =>.int (i ^ j.toNat)):=opI λ_ _ _ _ _ _ _ hc q=>pow_int_small hc.1 hc.2.1 hc.2.2 q
end
def tj:V->V->Bool
 | .non,.non=>true | .non,.int _=>true | .int _,.non=>true | .non,.bl _=>true | .bl _,.non=>true | .non,.str _=>true | .str _,.non=>true
 | .int _,.int _=>true | .bl _,.bl _=>true | .str _,.str _=>true | .byt _,.byt _=>true
 | .int _,.str _=>true | .str _,.int _=>true | .bl _,.str _=>true | .str _,.bl _=>true
 | _,_=>false
def rEq:R2:=λx y H Q=>tj x y=true/\Q (.bl (decide (x=y))) H
def rNe:R2:=λx y H Q=>tj x y=true/\Q (.bl (!decide (x=y))) H
theorem lK {i j:Int}:decide (V.int i=V.int j)=(i == j):=by
 rw[xF]
 simp
theorem nU {i j:Bool}:decide (V.bl i=V.bl j)=(i == j):=by
 rw[xF]
 simp
theorem lM {i j:Str}:decide (V.str i=V.str j)=(i == j):=by
 rw[xF]
 simp
theorem lN {i j:Array UInt8}:decide (V.byt i=V.byt j)=(i.toList == j.toList):=by
 rw[xF]
 cases i
 cases j
 simp
section
variable  {X:Cx}{a b c:Expr}{ta tb tc:TE}{pos:Pos}
theorem aM {pins:List (Addr×Obj)}{σ:St}{H:Hp}{s:uj}{Q:VK}{k k':Bool}(I:Inv X pins σ H s)(q:Q (.bl k) H)(e:k=k'):EP X pins σ Q (.bool k') s:=by
 subst e
 exact ⟨.bl k,H,I,rfl,q⟩
theorem dt:OpR X (wq .Eq) rEq:=by
 intro pins s σ H x y v u Q I rx ry h
 obtain ⟨hs,q⟩:=h
 cases x with
 | non =>
  cases rx
  cases y with
  | non=>cases ry;exact PySem.EqNone.eq_none_none (aM I q (by simp))
  | bl j=>cases ry;exact PySem.EqNone.eq_none_bool (aM I q (by simp))
  | int j=>obtain ⟨t',rfl⟩:=ry;exact PySem.EqNone.eq_none_int (aM I q (by simp))
  | str j=>obtain ⟨t',rfl⟩:=ry;exact PySem.EqNone.eq_none_str (aM I q (by simp))
  | _=>exact absurd (show false=true from hs) uP
 | bl i =>
  cases rx
  cases y with
  | non=>cases ry;exact PySem.EqNone.eq_bool_none (aM I q (by simp))
  | bl j=>cases ry;exact eq_bool (aM I q nU)
  | str j=>obtain ⟨t',rfl⟩:=ry;exact BB (aM I q (by simp))
  | _=>exact absurd (show false=true from hs) uP
 | int i =>
  obtain ⟨t,rfl⟩:=rx
  cases y with
  | non=>cases ry;exact PySem.EqNone.eq_int_none (aM I q (by simp))
  | int j=>obtain ⟨t',rfl⟩:=ry;exact eq_int (aM I q lK)
  | str j=>obtain ⟨t',rfl⟩:=ry;exact BK (aM I q (by simp))
  | _=>exact absurd (show false=true from hs) uP
 | str i =>
  obtain ⟨t,rfl⟩:=rx
  cases y with
  | non=>cases ry;exact PySem.EqNone.eq_str_none (aM I q (by simp))
  | bl j=>cases ry;exact BC (aM I q (by simp))
  | int j=>obtain ⟨t',rfl⟩:=ry;exact BL (aM I q (by simp))
  | str j=>obtain ⟨t',rfl⟩:=ry;exact eq_str (aM I q lM)
  | _=>exact absurd (show false=true from hs) uP
 | byt i =>
  obtain ⟨t,rfl⟩:=rx
  cases y with
  | byt j=>obtain ⟨t',rfl⟩:=ry;exact PySem.W.eq_bytes (aM I q lN)
  | _=>exact absurd (show false=true from hs) uP
 | _=>cases y <;> exact absurd (show false=true from hs) uP
theorem tm:OpR X (wq .NotEq) rNe:=by
 intro pins s σ H x y v u Q I rx ry h
 obtain ⟨hs,q⟩:=h
 cases x with
 | non =>
  cases rx
  cases y with
  | non=>cases ry;exact PySem.EqNone.ne_none_none (aM I q (by simp))
  | bl j=>cases ry;exact PySem.EqNone.ne_none_bool (aM I q (by simp))
  | int j=>obtain ⟨t',rfl⟩:=ry;exact PySem.EqNone.ne_none_int (aM I q (by simp))
  | str j=>obtain ⟨t',rfl⟩:=ry;exact PySem.EqNone.ne_none_str (aM I q (by simp))
  | _=>exact absurd (show false=true from hs) uP
 | bl i =>
  cases rx
  cases y with
  | non=>cases ry;exact PySem.EqNone.ne_bool_none (aM I q (by simp))
  | bl j=>cases ry;exact ne_bool (aM I q (congrArg not nU))
  | str j=>obtain ⟨t',rfl⟩:=ry;exact BD (aM I q (by simp))
  | _=>exact absurd (show false=true from hs) uP
 | int i =>
  obtain ⟨t,rfl⟩:=rx
  cases y with
  | non=>cases ry;exact PySem.EqNone.ne_int_none (aM I q (by simp))
  | int j=>obtain ⟨t',rfl⟩:=ry;exact ne_int (aM I q (congrArg not lK))
  | str j=>obtain ⟨t',rfl⟩:=ry;exact BM (aM I q (by simp))
  | _=>exact absurd (show false=true from hs) uP
 | str i =>
  obtain ⟨t,rfl⟩:=rx
  cases y with
  | non=>cases ry;exact PySem.EqNone.ne_str_none (aM I q (by simp))
  | bl j=>cases ry;exact BE (aM I q (by simp))
  | int j=>obtain ⟨t',rfl⟩:=ry;exact BN (aM I q (by simp))
  | str j=>obtain ⟨t',rfl⟩:=ry;exact ne_str (aM I q (congrArg not lM))
  | _=>exact absurd (show false=true from hs) uP
 | byt i =>
  obtain ⟨t,rfl⟩:=rx
  cases y with
  | byt j=>obtain ⟨t',rfl⟩:=ry;exact PySem.W.ne_bytes (aM I q (congrArg not lN))
  | _=>exact absurd (show false=true from hs) uP
 | _=>cases y <;> exact absurd (show false=true from hs) uP
theorem jJ:OpR X (wq .Lt) (rI0 λi j =>.bl (decide (i<j))):=pk λ_ _ _ _ _ _ _ q=>lt_int q
theorem tw:OpR X (wq .LtE) (rI0 λi j =>.bl (decide (i<=j))):=pk λ_ _ _ _ _ _ _ q=>le_int q
theorem nV:OpR X (wq .Gt) (rI0 λi j =>.bl (decide (j<i))):=pk λ_ _ _ _ _ _ _ q=>gt_int q
theorem tx:OpR X (wq .GtE) (rI0 λi j =>.bl (decide (j<=i))):=pk λ_ _ _ _ _ _ _ q=>ge_int q
theorem aS (b:Expr){op:CmpOp}(h:op ≠ .In:=by decide)(h2:op ≠ .NotIn:=by decide):behindInMarks op b=false:=by
 have e1:(op == CmpOp.In)=false:=by cases op <;> first | rfl | exact absurd rfl h
 have e2:(op == CmpOp.NotIn)=false:=by cases op <;> first | rfl | exact absurd rfl h2
 cases b <;> simp[behindInMarks,e1,e2]
theorem eP {op:CmpOp}{r:R2}(ho:OpR X (wq op) r)(ha:PE X a ta)(hb:PE X b tb)(hm:behindInMarks op b=false):PE X (.Compare a [op] [b] pos) (tOp r ta tb):=by
 intro pins s σ H Q I h
 exact wpAny_Compare1 (rG ha hb I h λv u s2 x y H2 I2 rx ry q=>ho pins s2 σ H2 x y v u Q I2 rx ry q) hm
def tE (t:TE):TT:=λσ H Q=>t σ H λx H'=>∃k,x = .bl k/\Q k H'
theorem aE {op:CmpOp}{r:R2}(ho:OpR X (wq op) r)(ha:PE X a ta)(hb:PE X b tb)(hm:behindInMarks op b=false):PT X (.Compare a [op] [b] pos) (tE (tOp r ta tb)):=by
 intro pins s σ H Q I h
 refine z7 (thn (ha pins s σ H _ I h) λv s1 ⟨x,H1,I1,r1,q1⟩=>thn (hb pins s1 σ H1 _ I1 q1) λu s2 ⟨y,H2,I2,r2,q2⟩ =>
  thn (ho pins s2 σ H2 x y v u _ I2 r1 r2 q2) λc s3 ⟨z,H3,I3,r3,k,e,q3⟩ =>?_) hm
 subst e
 cases r3
 exact xo ⟨H3,I3,q3⟩
def tF (K:uh)(x:V)(H:Hp)(k:Bool):Prop :=
 match x with
 | .non=>k=false
 | .bl b=>k=b
 | .int i=>k=(i != 0)
 | .str y=>y.length<=uL/\k=((y.length:Int) != 0)
 | .byt y=>y.size<=uL/\k=((y.size:Int) != 0)
 | .ref p=>(∃xs,SqL K H p xs/\k = !xs.isEmpty)\/(∃xs,SqT K H p xs/\k = !xs.isEmpty)\/∃kvs,H p=some (.dK kvs)/\k = !kvs.isEmpty
 | _=>False
theorem kD {κ:Type}{kvs:List (κ×V)}{vs:List (κ×ug)}(r:KV kvs vs):(!vs.isEmpty) = !kvs.isEmpty:=by
 cases r <;> rfl
theorem gn {xs:List V}{its:List ug}(r:Vals xs its):(!its.toArray.isEmpty) = !xs.isEmpty:=by
 cases r <;> simp
theorem eB:(uL:Nat)<2 ^ 63:=by rw[yt];decide
theorem rJ:TruR X (λx H Q=>∃k,tF X.K x H k/\Q k H):=by
 intro pins s σ H x v Q I rx h
 obtain ⟨k,e,q⟩:=h
 have hl:=eB
 have hs:uL=16777216:=yt
 cases x with
 | non =>
  cases rx
  have e':k=false:=e
  subst e'
  exact truthy_none ⟨H,I,q⟩
 | bl b =>
  cases rx
  have e':k=b:=e
  subst e'
  exact xo ⟨H,I,q⟩
 | int i =>
  obtain ⟨t,rfl⟩:=rx
  have e':k=(i != 0):=e
  subst e'
  exact PySem.P.truthy_int ⟨H,I,q⟩
 | str y =>
  obtain ⟨t,rfl⟩:=rx
  obtain ⟨hy,e'⟩:y.length<=uL/\k=((y.length:Int) != 0):=e
  subst e'
  exact PySem.P.truthy_str (by lia) ⟨H,I.tok _,q⟩
 | byt y =>
  obtain ⟨t,rfl⟩:=rx
  obtain ⟨hy,e'⟩:y.size<=uL/\k=((y.size:Int) != 0):=e
  subst e'
  exact PySem.W.truthy_bytes (by lia) ⟨H,I.tok _,q⟩
 | ref p =>
  cases rx
  have e':(∃xs,SqL X.K H p xs/\k = !xs.isEmpty)\/(∃xs,SqT X.K H p xs/\k = !xs.isEmpty)\/∃kvs,H p=some (.dK kvs)/\k = !kvs.isEmpty:=e
  rcases e' with ⟨xs,hx,e'⟩ | ⟨xs,hx,e'⟩ | ⟨kvs,hx,e'⟩
  ·subst e'
   obtain ⟨its,r,pl,hz⟩:=I.list hx
   have hlen:=r.length
   exact wpAny_truthy_list pl.isList (by simp only[uu];lia) ⟨H,I.tok _,by rw[gn r];exact q⟩
  ·subst e'
   obtain ⟨its,r,pl,hz⟩:=I.tuple hx
   have hlen:=r.length
   exact truthy_tuple pl (by simp only[uu];lia) ⟨H,I.tok _,by rw[gn r];exact q⟩
  ·subst e'
   obtain ⟨hz,hS,vs,r,m⟩:kvs.length<=uL/\(p == sysModules)=false/\∃vs,KV kvs vs/\s.heap.DictOf (i4 X.prog X.w) p vs:=I.hok p _ hx
   have hlen:kvs.length=vs.length:=zz r
   exact wpAny_truthy_dict hS m (by lia) ⟨H,I.tok _,by rw[kD r];exact q⟩
 | _=>exact (show False from e).elim
theorem nW (ha:PE X a ta)(he:∀whole,isTrue a X.env whole=(do let v ← whole;standAt a.pos;Ab [v] (truthy v))) :
    PT X a (λσ H Q=>ta σ H λx H'=>∃k,tF X.K x H' k/\Q k H'):=by
  intro pins s σ H Q I h
  exact isTrue_plain (thn (ha pins s σ H _ I h) λv s1 ⟨x,H1,I1,r1,q1⟩=>rJ pins s1 σ H1 x v Q I1 r1 q1) (he _)
theorem vals1 {x:V}{us:List ug}(r:Vals [x] us):∃u,us=[u]/\RelV x u:=by
 cases r with
 | cons r1 r2=>cases r2;exact ⟨_,rfl,r1⟩
theorem vals2 {x y:V}{us:List ug}(r:Vals [x,y] us):∃u w',us=[u,w']/\RelV x u/\RelV y w':=by
 cases r with
 | cons r1 r2 =>
  cases r2 with
  | cons r3 r4=>cases r4;exact ⟨_,_,rfl,r1,r3⟩
theorem iy (hc:X.calm=true):bO X (.builtin "max") (λxs H Q=>∃i j,xs=[.int i,.int j]/\Q (.int (if j>i then j else i)) H):=by
 intro pins s σ H xs us Q I r h
 obtain ⟨i,j,rfl,q⟩:=h
 obtain ⟨u,w',rfl,⟨t,rfl⟩,⟨t',rfl⟩⟩:=vals2 r
 refine max_two_ints (I.ok.hd hc) λh' tk k=>⟨_,H,I.kept k,?_,q⟩
 by_cases hj:j>i
 ·rw[if_pos hj,if_pos hj];exact ⟨_,rfl⟩
 ·rw[if_neg hj,if_neg hj];exact ⟨_,rfl⟩
theorem my (hc:X.calm=true):bO X (.builtin "min") (λxs H Q=>∃i j,xs=[.int i,.int j]/\Q (.int (if j<i then j else i)) H):=by
 intro pins s σ H xs us Q I r h
 obtain ⟨i,j,rfl,q⟩:=h
 obtain ⟨u,w',rfl,⟨t,rfl⟩,⟨t',rfl⟩⟩:=vals2 r
 refine min_two_ints (I.ok.hd hc) λh' tk k=>⟨_,H,I.kept k,?_,q⟩
 by_cases hj:j<i
 ·rw[if_pos hj,if_pos hj];exact ⟨_,rfl⟩
 ·rw[if_neg hj,if_neg hj];exact ⟨_,rfl⟩
theorem mz:bO X (.type "int") (λxs H Q=>(∃i,xs=[.int i]/\Q (.int i) H)\/∃k,xs=[.bl k]/\Q (.int (if k then 1 else 0)) H):=by
 intro pins s σ H xs us Q I r h
 rcases h with ⟨i,rfl,q⟩ | ⟨k,rfl,q⟩
 ·obtain ⟨u,rfl,t,rfl⟩:=vals1 r
  exact call_int_int ⟨.int i,H,I,⟨_,rfl⟩,q⟩
 ·obtain ⟨u,rfl,r1⟩:=vals1 r
  cases r1
  exact call_int_bool ⟨.int (if k then 1 else 0),H,I.tok _,⟨_,rfl⟩,q⟩
end
open PySem PySem.Spec PyProof.Rows
structure rK (h:Heap)(x dx C:Addr)(mA:Str->Option ug):Prop where
 obj:h.get? x=some (PySem.W.instObj C dx)
 ns:h.Ns1 dx mA
 ne:dx≠x
theorem mB {h:Heap}{dx:Addr}{mA:Str->Option ug}(n:h.Ns1 dx mA):∃od,h.get? dx=some od/\∀name,PySem.W.lookIn name od=some (mA name):=by
 obtain ⟨o,es,ep,ho,hd,hk,_,hm⟩:=n
 refine ⟨o,ho,λname =>?_⟩
 have e:=hm name
 unfold nsFind findBy at e
 rw[<- Array.find?_toList] at e
 unfold PySem.W.lookIn
 rw[hd]
 dsimp only
 split
 ·rename_i y q
  rw[q] at e
  exact congrArg some e
 ·rename_i q
  rw[q] at e
  have a:es.toList.any (·.refKey)=false:=by
   rw[List.any_eq_false]
   intro y hy
   obtain ⟨z,t,hkey⟩:=hk y (vT.mp hy)
   simp[DictEntry.refKey,hkey]
  have a':¬ es.toList.any (·.refKey)=true:=by rw[a];exact uP
  rw[if_neg a']
  exact congrArg some e
theorem rK.look {h:Heap}{x dx C:Addr}{mA:Str->Option ug}(I:rK h x dx C mA):∃od,PySem.W.InstAt h x (PySem.W.instObj C dx) C (some od)/\∀name,PySem.W.lookIn name od=some (mA name) :=
 let ⟨od,ho,hl⟩:=mB I.ns
 ⟨od,⟨I.obj,rfl,rfl,ho⟩,hl⟩
section
variable  {prog:uM}{w:vt}{A:vz}{E:ug->uj->Prop}{s:uj}{K:uh}{x dx C f:Addr}{mA:Str->Option ug}{name:Str}{v:ug}
end
section
variable  {P:uM}{w:vt}{H H':Hp}{h h':Heap}{a C dx:Addr}{fs fs':List (Str×V)}
theorem pA (hok:HOk P w H h)(e:H a=some (.ins C dx fs)):∃mA,rK h a dx C mA/\(∀f,rd (fs.lookup f) (mA f))/\PySem.Within mA (fs.map (·.1))/\fs.length<=1000/\H dx=some (.own a):=by
 obtain ⟨d,z,ne,ob,mA,n,r,q⟩:=(show bp P w H h a (.ins C dx fs) from hok a _ e)
 exact ⟨mA,⟨ob,n,ne⟩,r,q,z,d⟩
end
structure Cls (K:uh)(C:Addr):Prop where
 pg:PySem.W.plainGet K C Str.empty=true
 hd:PySem.W.hasDictIn K C=true
 po:PySem.W.plainOver K C=true
 sa:PySem.W.findIn K (.ref C) "__setattr__" = some (some (.builtin "object.__setattr__"))
theorem Cls.get {K:uh}{C:Addr}(c:Cls K C)(f:Str):PySem.W.plainGet K C f=true:=c.pg
section
variable  {X:Cx}{pins:List (Addr×Obj)}{σ:St}{H:Hp}{s:uj}{a C dx:Addr}{fs:List (Str×V)}{f:Str}{v:V}{A:vz}{E:ug->uj->Prop}
end
section
variable  {X:Cx}{o e value:Expr}{f:Str}{pos pos' tpos:Pos}{ta tv:TE}
end
section
variable  {X:Cx}{pins:List (Addr×Obj)}{σ:St}{H:Hp}{s:uj}{A:vz}{E:ug->uj->Prop}{Q:ug->uj->Prop}{c:ug}{b:Bool}
inductive fv (K:uh)(H:Hp):V->ug->Prop where
 | non:fv K H .non (.type "NoneType")
 | bl (x:Bool):fv K H (.bl x) (.type "bool")
 | int (i:Int):fv K H (.int i) (.type "int")
 | str (x:Str):fv K H (.str x) (.type "str")
 | flt (x:UInt64):fv K H (.flt x) (.type "float")
 | lst {a:Addr} {xs:List V} (e:H a=some (.lst xs)):fv K H (.ref a) (.type "list")
 | frz {a:Addr} {o:Obj} {xs:List V} (e:H a=some (.frz o (.lst xs))):fv K H (.ref a) (.type "list")
 | tup {a:Addr} {xs:List V} (e:H a=some (.tup xs)):fv K H (.ref a) (.type "tuple")
 | dK {a:Addr} {kvs:List (Key×V)} (e:H a=some (.dK kvs)):fv K H (.ref a) (.type "dict")
 | dT {a:Addr} {kvs:List (List Key×V)} (e:H a=some (.dT kvs)):fv K H (.ref a) (.type "dict")
 | ins {a C dx:Addr} {fs:List (Str×V)} (e:H a=some (.ins C dx fs)) (cl:Cls K C) (ha:PySem.W.findIn K (.ref C) "__class__" = some (some (.builtin "object.__class__")))
   (hn:PySem.W.specialIn K (.builtin "object.__class__") "__get__" = some (some (.builtin "getset_descriptor.__get__"))) (htk:PySem.W.takesIn K (.builtin "object.__class__")=some true)
   (hm:PySem.W.mroIn K C (.type "object")=some true):fv K H (.ref a) (.ref C)
theorem mC {x:V}{u t:ug}(I:Inv X pins σ H s)(rx:RelV x u)(ty:fv X.K H x t)(e:PySem.W.kitOne X.K t c=some b)(h:∀tk,Q (.bool b) { s with toks:=tk }) :
  vm (vk X.prog X.w) A (call (.builtin "isinstance") [u,c]) Q E s:=by
 cases ty with
 | non=>cases (show u=xA from rx);exact wa PySem.W.kitx_none I.kIn True.intro e (λz=>nomatch z) h
 | bl y=>cases (show u=Value.bool y from rx);exact wa PySem.W.kitx_bool I.kIn True.intro e (λz=>nomatch z) h
 | int i=>obtain ⟨t,q⟩:=(show ∃t,u=xZ i t from rx);cases q;exact wa PySem.W.kitx_int I.kIn True.intro e (λz=>nomatch z) h
 | str y=>obtain ⟨t,q⟩:=(show ∃t,u=Value.str y t from rx);cases q;exact wa PySem.W.kitx_str I.kIn True.intro e (λz=>nomatch z) h
 | flt y=>obtain ⟨t,q⟩:=(show ∃t,u=Value.float y t from rx);cases q;exact wa PySem.W.kitx_float I.kIn True.intro e (λz=>nomatch z) h
 | @lst a xs ea =>
  cases (show u=uW a from rx)
  obtain ⟨_,_,n,_,h1⟩:=(show bp X.prog X.w H s.heap a (.lst xs) from I.hok a _ ea)
  exact wa AR I.kIn ⟨_,h1,rfl⟩ e (λz=>nomatch z) h
 | @frz a ob xs ea =>
  cases (show u=uW a from rx)
  obtain ⟨_,_,_,n,_,h1⟩:=(show bp X.prog X.w H s.heap a (.frz ob (.lst xs)) from I.hok a _ ea)
  exact wa AR I.kIn ⟨_,h1,rfl⟩ e (λz=>nomatch z) h
 | @tup a xs ea =>
  cases (show u=uW a from rx)
  obtain ⟨_,_,_,p⟩:=(show bp X.prog X.w H s.heap a (.tup xs) from I.hok a _ ea)
  obtain ⟨o,h1,h2,_⟩:=p
  exact wa PySem.W.kitx_tuple I.kIn ⟨o,h1,h2.1⟩ e (λz=>nomatch z) h
 | @dK a kvs ea =>
  cases (show u=uW a from rx)
  obtain ⟨_,_,vs,_,p⟩:=(show bp X.prog X.w H s.heap a (.dK kvs) from I.hok a _ ea)
  obtain ⟨o,es,ep,h1,h2,_⟩:=p
  exact wa AS I.kIn ⟨o,h1,h2.1⟩ e (λz=>nomatch z) h
 | @dT a kvs ea =>
  cases (show u=uW a from rx)
  obtain ⟨_,_,xs,_,o,es,ep,h1,h2,_⟩:=(show bp X.prog X.w H s.heap a (.dT kvs) from I.hok a _ ea)
  exact wa AS I.kIn ⟨o,h1,h2.1⟩ e (λz=>nomatch z) h
 | @ins a C dx fs ea cl ha hn htk hm =>
  cases (show u=uW a from rx)
  obtain ⟨mA,O,_⟩:=pA I.hok ea
  obtain ⟨od,J,_⟩:=O.look
  exact wa (PySem.W.kitx_own (cl.get _) cl.hd ha hn htk hm) I.kIn J e (λz=>nomatch z) h
end
open PySem PySem.Spec PyProof.Rows
structure bT (k:Nat)(A:vz):Prop where
 hd:A.handled=none
 dp:A.depth+3*k+5<recursionLimit
 un:A.units+16*k+200<cLine
theorem bT.mono {j k:Nat}{A:vz}(r:bT k A)(h:j<=k):bT j A:=⟨r.hd,by have:=r.dp;lia,by have:=r.un;lia⟩
theorem bT.deeper {k:Nat}{A:vz}(r:bT (k+1) A)(env:Env):bT k (A.deeper env) :=
 ⟨r.hd,by have:=r.dp;show A.depth+1+3*k+5<_;lia,by have:=r.un;show A.units+3+16*k+200<_;lia⟩
theorem bT.depth {k:Nat}{A:vz}(r:bT k A):A.depth<recursionLimit:=by have:=r.dp;lia
theorem bT.units {k:Nat}{A:vz}(r:bT k A):A.units+64<cLine:=by have:=r.un;lia
def tNil:TA:=λ_ H Q=>Q [] H
def tG (ta:TE)(tr:TA):TA:=λσ H Q=>ta σ H λx H1=>tr σ H1 λxs H2=>Q (x :: xs) H2
section
variable  {X:Cx}{e:Expr}{es:List Expr}{te:TE}{t:TA}{pos:Pos}
theorem ae:PA X [] tNil:=λ_ _ _ _ H Q I h=>Calls.spliced_nil ⟨[],H,I,.nil,h⟩
theorem aa (ha:PE X e te)(hr:PA X es t)(hs:vG (e :: es) X.env=(false,eval e X.env) :: vG es X.env:=by rfl):PA X (e :: es) (tG te t):=by
 intro pos pins s σ H Q I h
 rw[hs]
 show vm _ _ (spliced ((false,eval e X.env) :: yX pos (vG es X.env))) _ _ s
 refine Calls.spliced_cons (thn (ha pins s σ H _ I h) λu s1 ⟨x,H1,I1,r1,q1⟩ =>?_)
 exact thn (hr pos pins s1 σ H1 _ I1 q1) λus s2 ⟨xs,H2,I2,r2,q2⟩=>⟨x :: xs,H2,I2,.cons r1 r2,q2⟩
def tTup (t:TA):TE:=λσ H Q=>t σ H λxs H1=>xs.length<=uL/\∀p,H1 p=none->Q (.ref p) (upd H1 p (.tup xs))
def tLst (t:TA):TE:=λσ H Q=>t σ H λxs H1=>xs.length<=uL/\∀p,H1 p=none->Q (.ref p) (upd H1 p (.lst xs))
theorem bE {x1}(h:PA X es t):PE X (.Tuple es x1 pos) (tTup t):=by
 intro pins s σ H Q I hq
 refine wpAny_Tuple_spliced (thn (h pos pins s σ H _ I hq) λus s1 ⟨xs,H1,I1,r,z,q⟩=>⟨by rw[<- r.length];exact z,?_⟩)
 have hf:H1 s1.heap.objs.size=none:=I1.hok.fresh (ur _)
 refine ⟨.ref s1.heap.objs.size,upd H1 s1.heap.objs.size (.tup xs),I1.laid (t':=s1.toks) (λb u e=>uq _ e) (ur _) ?_,rfl,q _ hf⟩
 exact ⟨z,us,r,⟨_,uU _ rfl,⟨rfl,rfl⟩,_,rfl⟩⟩
theorem cv (h:PA X es t):PE X (.List es pos) (tLst t):=by
 intro pins s σ H Q I hq
 refine wpAny_List_spliced (thn (h pos pins s σ H _ I hq) λus s1 ⟨xs,H1,I1,r,z,q⟩=>⟨by rw[<- r.length];exact z,?_⟩)
 have hf:H1 s1.heap.objs.size=none:=I1.hok.fresh (ur _)
 refine ⟨.ref s1.heap.objs.size,upd H1 s1.heap.objs.size (.lst xs),I1.laid (t':=s1.toks) (λb u e=>uq _ e) (ur _) ?_,rfl,q _ hf⟩
 exact ⟨z,us,0,r,uU _ rfl⟩
end
abbrev Sp:=List V->Hp->VK->XK->Prop
abbrev CXT:=List Env->Hp->uj->XK->ug->uj->Prop
structure pB (P:uM)(w:vt)(K:uh)(mg:Str->Option ug)(base:Heap)(A:vz)(outer:List Env)(s:uj)(H:Hp):Prop where
 frames:A.frames=some outer
 mod:Mod K mg base
 bs:∀b o,base.get? b=some o->s.heap.get? b=some o/\H b=none
 bsz:base.objs.size<=s.heap.objs.size
 funs:s.heap.FunFrames base outer
 frf:∀b∈frs outer,H b=none
 hok:HOk P w H s.heap
 bare:AllBare s.gens
def CE (outer:List Env)(P:uM)(w:vt)(H:Hp)(s:uj)(Q:VK)(u:ug)(s':uj):Prop :=
 ∃v H',s'.os=s.os/\AllBare s'.gens/\Un (frs outer) [] H H' s.heap s'.heap/\HOk P w H' s'.heap/\RelV v u/\Q v H'
def CR (CX:CXT)(outer:List Env)(P:uM)(w:vt)(H:Hp)(s:uj)(Q:VK)(E:XK)(r:Result)(s':uj):Prop :=
 match r with
 | .ok (.ret u)=>CE outer P w H s Q u s'
 | .ok _=>False
 | .error e=>CX outer H s E e s'
structure bF (P:uM)(w:vt)(K:uh)(mg:Str->Option ug)(base:Heap)(CX:CXT)(k:Nat)(f:Addr)(fd:vD)(ps:List Str)(sp:Sp):Prop where
 len:∀vs H Q E,sp vs H Q E->vs.length=ps.length
 run:∀(A:vz) (outer:List Env) (s:uj) (H:Hp) (args:Args) (us:List ug) (vs:List V) (Q:VK) (E:XK),bT k A->pB P w K mg base A outer s H->BindsTo s fd args (ps.zip us)->Vals vs us->sp vs H Q E →
  zJ (vk P w) A (.call (.ref f) args) (CR CX outer P w H s Q E) s
section
variable  {X:Cx}{pins:List (Addr×Obj)}{σ:St}{H:Hp}{s s':uj}
theorem Inv.tH (I:Inv X pins σ H s):pB X.prog X.w X.K X.mg X.base X.A X.stack s H :=
 ⟨I.ok.frames,I.ok.mod,I.bs,vc I.ok.bsz I.sz,I.stack,I.i7,I.hok,I.bare⟩
theorem Inv.after {Q:VK}{u:ug}(I:Inv X pins σ H s)(h:CE X.stack X.prog X.w H s Q u s'):EP X pins σ Q u s':=by
 obtain ⟨v,H',os,bare,un,hok,r,q⟩:=h
 obtain ⟨hh,g,d,t,os'⟩:=s'
 obtain rfl:os'=s.os:=os
 exact ⟨v,H',I.call (h':=hh) (g':=g) (d':=d) (t':=t) (ch:=[]) un hok bare (λb z=>absurd z (by simp)),r,q⟩
end
def nX (sp:Sp)(dvs:List V)(E:XK)(t:TA):TE:=λσ H Q=>t σ H λvs H1=>sp (vs++dvs) H1 Q E
def Binds (K:uh)(fd:vD)(ps:List Str)(ds:List ug):Prop :=
 ∀(s:uj) (us:List ug),K.In s.heap->(us++ds).length=ps.length->BindsTo s fd ⟨us,[]⟩ (ps.zip (us++ds))
theorem Binds.all {K:uh}{fd:vD}{ps:List Str}(h:∀us:List ug,us.length=ps.length->bindArgs fd ⟨us,[]⟩=pure (ps.zip us)):Binds K fd ps []:=λs us _ hl=>by
 rw[vE] at hl ⊢
 exact .of_eq (h us hl)
def Passes (CX:CXT)(X:Cx)(E:XK):Prop:=∀(pins:List (Addr×Obj)) (σ:St) (H:Hp) (s:uj) (e:ug) (s':uj),Inv X pins σ H s->CX X.stack H s E e s'->X.xe e s'
section
variable  {X:Cx}{CX:CXT}{k:Nat}{f C:Addr}{fd:vD}{ps:List Str}{sp:Sp}{dvs:List V}{ds:List ug}{E:XK}{x m:Str}{p pos apos:Pos}{e o:Expr}{es:List Expr}{ta:TE}{t:TA}
theorem rM {pins:List (Addr×Obj)}{σ:St}{H:Hp}{s:uj}{Q:VK}{us:List ug}{vs:List V}(F:bF X.prog X.w X.K X.mg X.base CX k f fd ps sp)(hr:bT k X.A)(hb:Binds X.K fd ps ds)(hd:Vals dvs ds)(hx:Passes CX X E)
  (I:Inv X pins σ H s) (r:Vals vs us) (h:sp (vs++dvs) H Q E):vm (vk X.prog X.w) X.A (call (.ref f) us) (EP X pins σ Q) X.xe s:=by
 have r2:Vals (vs++dvs) (us++ds):=r.append hd
 have hl:(us++ds).length=ps.length:=by rw[<- r2.length];exact F.len _ _ _ _ h
 refine Bc (xK (F.run X.A X.stack s H ⟨us,[]⟩ (us++ds) (vs++dvs) Q E hr I.tH (hb s us I.kIn hl) r2 h) λr s' hq =>?_)
 cases r with
 | error e=>exact hx pins σ H s e s' I hq
 | ok fl =>
  cases fl with
  | ret u=>exact I.after hq
  | next=>exact False.elim hq
  | brk=>exact False.elim hq
  | cont=>exact False.elim hq
theorem lO (F:bF X.prog X.w X.K X.mg X.base CX k f fd ps sp)(hr:bT k X.A)(hg:Gl X x)(hm:X.mg x=some (.ref f))(hk:PySem.W.keepIn X.K (.ref f)=true)(hb:Binds X.K fd ps ds)(hd:Vals dvs ds)(hx:Passes CX X E)
  (ha:PA X (e :: es) t) (hdb:(x == ("__debug__" : Str))=false:=by decide) (he:vG (e :: es) X.env=(false,eval e X.env) :: vG es X.env:=by rfl) (hpl:(yX pos (vG es X.env)).any (·.1)=false:=by rfl) :
  PE X (.Call (.Name x p) (e :: es) [] pos) (nX sp dvs E t):=by
 intro pins s σ H Q I h
 refine yp (eN I hg hm ?_ hdb)
 refine Az (h₀:=X.base) I.ok.mod.kin hk (thn (ha pos pins s σ H _ I h) λus s1 ⟨vs,H1,I1,r,q⟩=>⟨I1.kIn,?_⟩) he hpl
 exact rM F hr hb hd hx I1 r q
end
section
variable  {X:Cx}{CX:CXT}{k:Nat}{f C:Addr}{fd:vD}{ps ks:List Str}{sp:Sp}{E:XK}{x m:Str}{p pos apos kpos:Pos}{e o:Expr}{es:List Expr}{kws:List Keyword}{te ta:TE}{t tk:TA}{nm:Option Str}
variable  {g:List ug->List ug->List ug}{gV:List V->List V->List V}
end
structure aI (N P:List Str)(sc:Scope):Prop where
 kind:sc.kind = .function
 co:sc.isCoroutine=false
 gen:sc.isGenerator=false
 nd:N.Nodup
 pre:N.take P.length=P
 par:∀x∈P,sc.names.lookup x=some .local\/sc.names.lookup x=some .cell
 nofree:∀y∈sc.names,y.2 ≠ .free
theorem iz {kindOf:Str->Option NameKind}{x:Str}:∀{binds:List (Str×ug)} {m:Str->Option ug},(∀v,(x,v)∉binds)->bindL kindOf binds m x=m x
 | [],_,_=>rfl
 | (n,v) :: r,m,h=>by
  unfold bindL
  rw[iz λw hw=>h w (u6 _ hw)]
  split
  ·have:x≠n:=by rintro rfl;exact h v uZ
   simp[this]
  ·rfl
theorem iA {kindOf:Str->Option NameKind}{x:Str}:∀{binds:List (Str×ug)} {m:Str->Option ug},(∀v,(x,v)∉binds)->bindC kindOf binds m x=m x
 | [],_,_=>rfl
 | (n,v) :: r,m,h=>by
  unfold bindC
  rw[iA λw hw=>h w (u6 _ hw)]
  split
  ·rfl
  ·have:x≠n:=by rintro rfl;exact h v uZ
   simp[this]
theorem iB {kindOf:Str->Option NameKind}{x:Str}{v:ug}:∀{P:List Str} {vs:List ug} {i:Nat} {m:Str->Option ug},P.Nodup->P[i]? = some x->vs[i]? = some v->kindOf x=some .local →
  bindL kindOf (P.zip vs) m x=some v
 | [],_,_,_,_,h,_,_=>by simp at h
 | _ :: _,[],_,_,_,_,h,_=>by simp at h
 | p :: P,w :: vs,0,m,nd,h1,h2,hk=>by
  simp at h1 h2;subst h1;subst h2
  show bindL kindOf ((p,w) :: P.zip vs) m p=_
  unfold bindL
  rw[iz λv hv=>(wj.mp nd).1 (zV hv).1,if_pos hk]
  simp
 | p :: P,w :: vs,i+1,m,nd,h1,h2,hk=>by
  show bindL kindOf ((p,w) :: P.zip vs) m x=_
  unfold bindL
  exact iB (i:=i) (wj.mp nd).2 (by simpa using h1) (by simpa using h2) hk
theorem iC {kindOf:Str->Option NameKind}{x:Str}{v:ug}:∀{P:List Str} {vs:List ug} {i:Nat} {m:Str->Option ug},P.Nodup->P[i]? = some x->vs[i]? = some v->kindOf x≠some .local →
  bindC kindOf (P.zip vs) m x=some v
 | [],_,_,_,_,h,_,_=>by simp at h
 | _ :: _,[],_,_,_,_,h,_=>by simp at h
 | p :: P,w :: vs,0,m,nd,h1,h2,hk=>by
  simp at h1 h2;subst h1;subst h2
  show bindC kindOf ((p,w) :: P.zip vs) m p=_
  unfold bindC
  rw[iA λv hv=>(wj.mp nd).1 (zV hv).1,if_neg hk]
  simp
 | p :: P,w :: vs,i+1,m,nd,h1,h2,hk=>by
  show bindC kindOf ((p,w) :: P.zip vs) m x=_
  unfold bindC
  exact iC (i:=i) (wj.mp nd).2 (by simpa using h1) (by simpa using h2) hk
def start (N:List Str)(vs:List V):St:=vs.map some++BJ (N.length-vs.length) none
def gp (CX:CXT)(P:uM)(w:vt)(K:uh)(mg:Str->Option ug)(base:Heap)(N:List Str)(qual:Str)(scope:Scope)(f:Addr)(cd:ug)(A:vz)(outer:List Env)(s:uj)(H:Hp)(E:XK):Cx where
 prog:=P
 w:=w
 K:=K
 mg:=mg
 base:=base
 A:=A.deeper (envOfC qual scope s.heap.objs.size f cd)
 N:=N
 s₀:=s
 H₀:=H
 env:=envOfC qual scope s.heap.objs.size f cd
 outer:=outer
 stack:=envOfC qual scope s.heap.objs.size f cd :: outer
 ex:=[]
 calm:=true
 fn:=λ_=>true
 pn:=[]
 xe:=λe s'=>vm (vk P w) (A.deeper (envOfC qual scope s.heap.objs.size f cd)) (leaving (envOfC qual scope s.heap.objs.size f cd) e) (λ_ s''=>CX outer H s E e s'') (λe' s''=>CX outer H s E e' s'') s'
theorem jK {sc:Scope}{n:Nat}{x:Str}(h:sc.names.lookup x=some .cell):∃c,(cellsFrom n sc.names []).lookup x=some c:=by
 have q:=zQ sc.names n [] (.inl h)
 exact zf.mp q
theorem mD {CX:CXT}{P:uM}{w:vt}{K:uh}{mg:Str->Option ug}{base:Heap}{N ps:List Str}{qual:Str}{scope:Scope}{f:Addr}{cd:ug}{A:vz}{outer:List Env}{s s1:uj}{H:Hp}{E:XK}{us:List ug}{vs:List V}
  (S:aI N ps scope) (hd:A.handled=none) (e0:pB P w K mg base A outer s H) (hl:vs.length=ps.length) (r:Vals vs us)
  (x:InCallC s s.heap.objs.size (bindL (envOfC qual scope s.heap.objs.size f cd).kindOf (ps.zip us) λ_=>none) (cellsFrom (s.heap.objs.size+1) scope.names []) (bindC (envOfC qual scope s.heap.objs.size f cd).kindOf (ps.zip us) λ_=>none) s1) :
  Inv (gp CX P w K mg base N qual scope f cd A outer s H E) [] (start N vs) H s1:=by
 have hpl:ps.length<=N.length:=by have:=congrArg List.length S.pre;rw[vx] at this;lia
 obtain ⟨h1,tk,rfl,hk⟩:=x.done
 have noA:∀b:Addr,b∉(gp CX P w K mg base N qual scope f cd A outer s H E).ex:=λb z=>absurd (show b∈([]:List Addr) from z) (by simp)
 refine ⟨⟨e0.mod,S.kind,rfl,rfl,ur _,λy z c h1 h2 =>?_,λy hy =>?_,λy c _ h =>?_,λ_=>hd,Around.frames_deeper e0.frames,.inr ⟨rfl,rfl⟩,λb z=>absurd z (noA b),e0.bs,e0.bsz,λb _ _=>noA b,λb z=>absurd z (noA b),e0.funs,e0.frf⟩,
  rfl,e0.bare,Un.kept hk,⟨_,x.toInCall.ns,λi y v h1 h2 h3 =>?_⟩,λy c h=>⟨_,x.cell y c h⟩,e0.hok.fresh (ur _),λy c h =>?_,λp hp=>absurd (show p∈([]:List (Addr×Obj)) from hp) (by simp),e0.hok.kept hk,?_⟩
 ·exact name_of_addr x.apart (wR h1) (wR h2)
 ·have hy:scope.names.lookup y=some .cell\/scope.names.lookup y=some .free:=hy
  rcases hy with hy | hy
  ·exact jK hy
  ·exact absurd rfl (S.nofree _ (wR hy))
 ·exact xq (x.above y c (wR h))
 ·have hi:i<vs.length:=by
   unfold start at h2
   by_cases hi:i<vs.length
   ·exact hi
   ·rw[wW (by simpa using hi)] at h2
    rw[yl] at h2
    split at h2 <;> cases h2
  have ha:vs[i]? = some v:=by
   unfold start at h2
   rw[wA (by simpa using hi),uF] at h2
   cases e:vs[i]? with
   | none=>rw[e] at h2;cases h2
   | some a=>rw[e] at h2;cases h2;rfl
  obtain ⟨u,hu,rv⟩:=r.get ha
  have hp:ps[i]? = some y:=by
   rw[<- S.pre,zg (by lia)];exact h1
  have ndP:ps.Nodup:=by rw[<- S.pre];exact S.nd.sublist (vP _ _)
  refine ⟨u,rv,?_⟩
  rcases S.par y (uS hp) with k | k
  ·exact .inl ⟨k,iB ndP hp hu k⟩
  ·obtain ⟨c,e⟩:=jK (n:=s.heap.objs.size+1) k
   refine .inr ⟨.inl k,c,e,?_⟩
   have q:=x.cell y c e
   rw[iC ndP hp hu (by show scope.names.lookup y≠_;rw[k];decide)] at q
   exact q
 ·exact e0.hok.fresh (xq (x.above y c (wR h)))
 ·unfold start
  show _=N.length
  rw[uv,ue,zW]
  lia
theorem qI {CX:CXT}{P:uM}{w:vt}{K:uh}{mg:Str->Option ug}{base:Heap}{k:Nat}{f:Addr}{name qual:Str}{params:Arguments}{body:List Stmt}{scope:Scope}{dV kV doc pm cdv ct oc:ug}{an od:Option Addr}
  {osl:Array (Option ug)} {N ps:List Str} {sp:Sp} (lk:K.lookup f=some ⟨oc,od,.func (PySem.W.fnOf name qual params body scope dV kV doc pm an cdv ct),osl⟩) (hcd:PySem.W.codeIn K cdv qual=true) (S:aI N ps scope)
  (len:∀vs H Q E,sp vs H Q E->vs.length=ps.length)
  (hbody:∀(A:vz) (outer:List Env) (s:uj) (H:Hp) (vs:List V) (Q:VK) (E:XK),bT k (A.deeper (envOfC qual scope s.heap.objs.size f cdv))->sp vs H Q E →
   ∃t,PSs (gp CX P w K mg base N qual scope f cdv A outer s H E) body t/\t { nx:=λ_ H'=>Q .non H',rt:=Q } (start N vs) H) :
  bF P w K mg base CX (k+1) f (PySem.W.fnOf name qual params body scope dV kV doc pm an cdv ct) ps sp:=by
 refine ⟨len,λA outer s H args us vs Q E hr e0 hb r hsp =>?_⟩
 have hl:=len _ _ _ _ hsp
 have KX:K.In s.heap:=e0.mod.kin.keeps λb o e=>(e0.bs b o e).1
 have lim:s.heap.NoLimit:=e0.mod.nolimit.keeps λb o e=>(e0.bs b o e).1
 have hkind:∀y∈ps.zip us,scope.names.lookup y.1=some .local\/(scope.names.lookup y.1=some .cell/\((cellsFrom (s.heap.objs.size+1) scope.names []).lookup y.1).isSome=true):=λ⟨n,v⟩ hy=>by
  rcases S.par n (zV hy).1 with q | q
  ·exact .inl q
  ·exact .inr ⟨q,zQ _ _ _ (.inl q)⟩
 refine codeAny_call_function hr.depth (KX _ _ lk) rfl S.co S.gen rfl (PySem.W.codeRec_of KX hcd) (hb _ _ _ _ ?_)
 refine wpAny_newFunctionEnv_cells S.kind hkind λenv he s1 x =>?_
 subst he
 refine ⟨lim.keeps x.toInCall.keep,codeAny_func ?_⟩
 obtain ⟨t,ht,hq⟩:=hbody A outer s H vs Q E (hr.deeper _) hsp
 have I:Inv (gp CX P w K mg base N qual scope f cdv A outer s H E) [] (start N vs) H s1:=mD S hr.hd e0 hl r x
 refine wG (ht [] s1 (start N vs) H _ I hq) (λfl s' hs =>?_) λe s' hs=>hs
 have fin:∀{σ':St} {H':Hp} {v:V} {u:ug},Inv (gp CX P w K mg base N qual scope f cdv A outer s H E) [] σ' H' s'->RelV v u->Q v H'->CE outer P w H s Q u s' :=
  λ{σ' H' v u} J rv q=>⟨v,H',J.os,J.bare,J.base,J.hok,rv,q⟩
 cases fl with
 | ret u =>
  obtain ⟨v,σ',H',J,rv,q⟩:=hs
  exact fin J rv q
 | next =>
  obtain ⟨σ',H',J,q⟩:=hs
  exact fin (v:=V.non) (u:=xA) J rfl q
 | brk =>
  obtain ⟨_,_,_,q⟩:=hs
  exact False.elim q
 | cont =>
  obtain ⟨_,_,_,q⟩:=hs
  exact False.elim q
open PySem PySem.Spec PyProof.Rows
section
variable  {X:Cx}{x:Str}{p pos:Pos}{e:Expr}{es:List Expr}{t:TA}{id T:String}{r:List V->Hp->VK->Prop}
def tCB (r:List V->Hp->VK->Prop)(t:TA):TE:=λσ H Q=>t σ H λvs H1=>r vs H1 Q
theorem ax (hc:bO X (.builtin id) r)(hg:Gl X x)(hm:X.mg x=none)(hv:vJ x=some (.builtin id))(ha:PA X (e :: es) t)(hn:x ≠ "__name__" := by decide)(hdb:(x == ("__debug__" : Str))=false:=by decide)
  (he:vG (e :: es) X.env=(false,eval e X.env) :: vG es X.env:=by rfl) (hpl:(yX pos (vG es X.env)).any (·.1)=false:=by rfl):PE X (.Call (.Name x p) (e :: es) [] pos) (tCB r t):=by
 intro pins s σ H Q I h
 refine yp (i8 I hg hm hv ?_ hn hdb)
 exact PyProof.Rows.callWith_builtin1 (thn (ha pos pins s σ H _ I h) λus s1 ⟨vs,H1,I1,r1,q1⟩=>hc pins s1 σ H1 vs us Q I1 r1 q1) he hpl
theorem aR (hc:bO X (.type T) r)(hg:Gl X x)(hm:X.mg x=none)(hv:vJ x=some (.type T))(ha:PA X (e :: es) t)(hn:x ≠ "__name__" := by decide)(hdb:(x == ("__debug__" : Str))=false:=by decide)
  (he:vG (e :: es) X.env=(false,eval e X.env) :: vG es X.env:=by rfl) (hpl:(yX pos (vG es X.env)).any (·.1)=false:=by rfl):PE X (.Call (.Name x p) (e :: es) [] pos) (tCB r t):=by
 intro pins s σ H Q I h
 refine yp (i8 I hg hm hv ?_ hn hdb)
 exact yH (thn (ha pos pins s σ H _ I h) λus s1 ⟨vs,H1,I1,r1,q1⟩=>hc pins s1 σ H1 vs us Q I1 r1 q1) he hpl
end
end L2
namespace HT
open PySem PyProof.Rows
def lexLt:List Int->List Int->Bool
 | [],[]=>false
 | [],_ :: _=>true
 | _ :: _,[]=>false
 | x :: xs,y :: ys=>if x=y then lexLt xs ys else decide (x<y)
theorem cV (x y:Int)(xs ys:List Int):lexLt (x :: xs) (y :: ys)=if x=y then lexLt xs ys else decide (x<y):=rfl
theorem nY (A:vz)(s:uj)(a:Int)(t:Tok)(c:Int)(u:Tok)(prog:uM)(w:vt)(E:ug->uj->Prop)(Q:ug->uj->Prop)(h:Q (.bool (decide (a<c))) s) :
  vm (vk prog w) A (richCompare .Lt (.int a t) (.int c u)) Q E s :=
 (PyProof.Rows.lt_int h:vm (vk prog w) A (wq .Lt (.int a t) (.int c u)) Q E s)
section
open PySem.SeqAt
open PySem.AutoSeq1 (wpAny_loadPart')
open PySem.MeetsSeq PySem.MeetsSeq2 PySem.MeetsSeq3
end
section
variable  {prog:uM}{w:vt}{A:vz}{E:ug->uj->Prop}{s:uj}
def sIx (n d:Nat):Option Int->Nat
 | none=>d
 | some v=>if v<0 then (v+(n:Int)).toNat else min v.toNat n
end
end HT
namespace L2
open PySem PySem.Spec PyProof.Rows
abbrev TO:=St->Hp->(Option Int->Hp->Prop)->Prop
theorem intsAre_of {ns:List Int}:∀{us:List ug},Vals (ns.map V.int) us->xW us ns:=by
 induction ns with
 | nil=>intro us r;rw[BZ] at r;cases r;exact .nil
 | cons n ns ih =>
  intro us r
  rw[vg] at r
  cases r with
  | cons r1 r2 =>
   obtain ⟨t,e⟩:=r1
   subst e
   exact .cons n t (ih r2)
section
variable  {X:Cx}{e:Expr}{te:TE}{lo hi:Option Expr}{tl th:TO}{pos p2:Pos}
def SlR (X:Cx)(r:V->Option Int->Option Int->Hp->VK->Prop):Prop :=
 ∀(pins:List (Addr×Obj)) (s:uj) (σ:St) (H:Hp) (x:V) (v vl vu:ug) (lo hi:Option Int) (sl:Addr) (Q:VK),Inv X pins σ H s->RelV x v->s.heap.IsSliceOf sl vl vu .none->IsPart vl lo->IsPart vu hi->r x lo hi H Q →
  ∃T id,typeLookup (.type T) "__getitem__" = pure (some (.builtin id))/\s.TypeIs v T/\vm (vk X.prog X.w) X.A (getItem v (.ref sl)) (EP X pins σ Q) X.xe s
def pC (xs:List V)(lo hi:Option Int):List V:=(xs.drop (HT.sIx xs.length 0 lo)).take (HT.sIx xs.length xs.length hi-HT.sIx xs.length 0 lo)
theorem jL (xs:List V)(lo hi:Option Int):(pC xs lo hi).length<=xs.length:=by
 unfold pC
 rw[vx,wI]
 lia
end
open PySem PySem.Spec PyProof.Rows
def ixN (n:Nat)(i:Int):Option Nat:=if 0<=i then (if i<n then some i.toNat else none) else if -(n:Int)<=i then some (i+n).toNat else none
def atI {α:Type}(xs:List α)(i:Int):Option α:=(ixN xs.length i).bind λj=>xs[j]?
theorem lP {n:Nat}{i:Int}{j:Nat}(h:ixN n i=some j):seqIndex? i n=some j/\j<n /\ -(n:Int)<=i/\i<n:=by
 unfold ixN at h
 by_cases h0:0<=i
 ·rw[if_pos h0] at h
  by_cases h1:i<n
  ·rw[if_pos h1] at h
   have e:i.toNat=j:=vw h
   exact ⟨by rw[BA h0 h1,e],by lia,by lia,h1⟩
  ·rw[if_neg h1] at h;cases h
 ·rw[if_neg h0] at h
  by_cases h1 : -(n:Int)<=i
  ·rw[if_pos h1] at h
   have e:(i+n).toNat=j:=vw h
   exact ⟨by rw[Bf (by lia) h1,e],by lia,h1,by lia⟩
  ·rw[if_neg h1] at h;cases h
theorem lQ {α:Type}{xs:List α}{i:Int}{v:α}(h:atI xs i=some v):∃j,seqIndex? i xs.length=some j/\xs[j]? = some v/\j<xs.length /\ -(xs.length:Int)<=i/\i<xs.length:=by
 unfold atI at h
 cases e:ixN xs.length i with
 | none=>rw[e] at h;cases h
 | some j =>
  rw[e] at h
  obtain ⟨h1,h2,h3,h4⟩:=lP e
  exact ⟨j,h1,h,h2,h3,h4⟩
theorem dH {α:Type}{xs:List α}{j:Nat}{v:α}(h:xs[j]? = some v):atI xs (j:Int)=some v:=by
 have hj:j<xs.length:=(um.mp h).1
 have e:ixN xs.length (j:Int)=some j:=by
  unfold ixN
  rw[if_pos (by lia),if_pos (by lia)];simp
 unfold atI;rw[e];exact h
def pE (b:Expr):Prop:=∀o i,subscripted b false o i=operate [o,i] (getItem o i)
def IxR (X:Cx)(r:R2):Prop :=
 ∀(value slice:Expr) (pins:List (Addr×Obj)) (s:uj) (σ:St) (H:Hp) (x y:V) (v u:ug) (Q:VK),Inv X pins σ H s->RelV x v->RelV y u->r x y H Q →
  subscripted slice false v u=operate [v,u] (getItem v u)->vm (vk X.prog X.w) X.A (subscriptTail value slice v u) (EP X pins σ Q) X.xe s
def MtR (X:Cx)(id:String)(r:V->List V->Hp->VK->Prop):Prop :=
 ∀(pins:List (Addr×Obj)) (s:uj) (σ:St) (H:Hp) (x:V) (xs:List V) (v:ug) (us:List ug) (Q:VK),Inv X pins σ H s->RelV x v->Vals xs us->r x xs H Q →
  vm (vk X.prog X.w) X.A (call (.builtin id) (v :: us)) (EP X pins σ Q) X.xe s
section
variable  {X:Cx}{a b:Expr}{ta tb:TE}{pos:Pos}
theorem aJ {r:R2}(hr:IxR X r)(ha:PE X a ta)(hb:PE X b tb)(hs:pE b):PE X (.Subscript a b pos) (tOp r ta tb):=by
 intro pins s σ H Q I h
 exact Subscript_ (rG ha hb I h λv u s2 x y H2 I2 rx ry q=>hr a b pins s2 σ H2 x y v u Q I2 rx ry q (hs _ _))
def tI (K:uh):R2:=λx y H Q=>∃p xs i v,x = .ref p/\y = .int i/\SqL K H p xs/\atI xs i=some v/\Q v H
def tJ (K:uh):R2:=λx y H Q=>∃p xs i v,x = .ref p/\y = .int i/\SqT K H p xs/\atI xs i=some v/\Q v H
theorem bD:IxR X (tI X.K):=by
 intro value slice pins s σ H x y v u Q I rx ry h hs
 obtain ⟨p,xs,i,z,rfl,rfl,hq,he,q⟩:=h
 cases rx
 obtain ⟨t,rfl⟩:=ry
 obtain ⟨its,r,pl,hz⟩:=I.list hq
 obtain ⟨j,h1,h2,h3,h4,h5⟩:=lQ he
 obtain ⟨w,ew,rw'⟩:=r.get h2
 have hl:=r.length
 have hn:=eB
 have fin:EP X pins σ Q w s:=⟨z,H,I,rw',q⟩
 by_cases h0:0<=i
 ·have hj:i.toNat=j:=by
   rw[BA h0 h5] at h1
   exact vw h1
  exact item_listR pl.isList h0 (by lia) (by rw[hj];simpa using ew) fin hs
 ·have hj:(i+(its.toArray.size:Int)).toNat=j:=by
   rw[Bf (by lia) h4] at h1
   rw[uu, <- hl]
   exact vw h1
  exact zU (x:=w) pl.isList.typeIs slot_list_getitem.lookup
   (wpAny_getItem_list_neg (Q:=λr s'=>r=w/\EP X pins σ Q r s') pl.isList (by lia) (by rw[uu] <;> lia) (by lia) (by rw[hj];simpa using ew) ⟨rfl,fin⟩) hs
theorem aT:IxR X (tJ X.K):=by
 intro value slice pins s σ H x y v u Q I rx ry h hs
 obtain ⟨p,xs,i,z,rfl,rfl,hq,he,q⟩:=h
 cases rx
 obtain ⟨t,rfl⟩:=ry
 obtain ⟨its,r,pl,hz⟩:=I.tuple hq
 obtain ⟨j,h1,h2,h3,h4,h5⟩:=lQ he
 obtain ⟨w,ew,rw'⟩:=r.get h2
 have hl:=r.length
 have hn:=eB
 have fin:EP X pins σ Q w s:=⟨z,H,I,rw',q⟩
 exact zU (x:=w) pl.typeIs slot_tuple_getitem.lookup
  (getItem_tuple (j:=j) (Q:=λr s'=>r=w/\EP X pins σ Q r s') pl (by lia) (by lia) (by rw[uu, <- hl];exact h1) (by simpa using ew) ⟨rfl,fin⟩) hs
theorem kE (its:List ug)(n j:Nat)(u:ug):wH (·.setIfInBounds j u) { cls :=.type "list",data :=.seq its.toArray n }={ cls :=.type "list",data :=.seq (its.set j u).toArray n }:=by
 simp[wH]
theorem Inv.lst {pins:List (Addr×Obj)}{σ:St}{H:Hp}{s:uj}{p:Addr}{xs:List V}(I:Inv X pins σ H s)(h:H p=some (.lst xs)) :
  ∃(its:List ug) (n:Nat),Vals xs its/\s.heap.get? p=some { cls :=.type "list",data :=.seq its.toArray n }/\xs.length<=uL:=by
 obtain ⟨z,its,n,r,e⟩:=I.hok p _ h
 exact ⟨its,n,r,e,z⟩
theorem Inv.rN {pins:List (Addr×Obj)}{σ:St}{H:Hp}{s:uj}{p:Addr}{xs ys:List V}{its its':List ug}{n n':Nat}{f:Obj->Obj}(I:Inv X pins σ H s)(h:H p=some (.lst xs))
  (ho:s.heap.get? p=some { cls :=.type "list",data :=.seq its.toArray n }) (hf:f { cls :=.type "list",data :=.seq its.toArray n }={ cls :=.type "list",data :=.seq its'.toArray n' }) (r:Vals ys its') (hz:ys.length<=uL) (t:Nat) :
  Inv X pins σ (upd H p (.lst ys)) { s with heap:=s.heap.update p f,toks:=t }:=by
 have e:(s.heap.update p f).get? p=some { cls :=.type "list",data :=.seq its'.toArray n' }:=by
  rw[wX f ho (by rw[hf] <;> rfl),hf]
 refine I.write (x:=p) (e:=p) (by rw[h];trivial) (.inl rfl) (λb u hb q=>(v9 _ _ (w6 hb)).trans q) ⟨_,e⟩ ?_
 exact ⟨hz,its',n',r,e⟩
def tK:V->V->V->Hp->(Hp->Prop)->Prop:=λo i v H Q=>∃p xs k j,o = .ref p/\i = .int k/\H p=some (.lst xs)/\ixN xs.length k=some j/\Q (upd H p (.lst (xs.set j v)))
theorem set_list:rA X tK:=by
 intro pins s σ H o i v ov iv u Q I ro ri rv h
 obtain ⟨p,xs,k,j,rfl,rfl,hp,hj,q⟩:=h
 cases ro
 obtain ⟨t,rfl⟩:=ri
 obtain ⟨its,n,r,ho,hz⟩:=I.lst hp
 obtain ⟨h1,h2,h3,h4⟩:=lP hj
 have hl:=r.length
 have hn:=eB
 have I':Inv X pins σ (upd H p (.lst (xs.set j v))) { s with heap:=s.heap.update p (wH (·.setIfInBounds j u)) } :=
  I.rN hp ho (kE its n j u) (r.set rv j) (by rw[zX];exact hz) s.toks
 by_cases h0:0<=k
 ·have hk:k.toNat=j:=by
   rw[BA h0 h4] at h1
   exact vw h1
  exact PySem.W.ki_setAt ho h0 (by lia) (by rw[uu, <- hl];exact h4) (by rw[hk];exact ⟨_,I',q⟩)
 ·have hk:(k+(its.toArray.size:Int)).toNat=j:=by
   rw[Bf (by lia) h3] at h1
   rw[uu, <- hl]
   exact vw h1
  exact PySem.W.ki_setBack ho (by lia) (by rw[uu, <- hl];exact h3) (by lia) (by rw[hk];exact ⟨_,I',q⟩)
theorem jb (lo hi:Option Int)(n:Nat):(sliceBounds lo hi none n).1=((HT.sIx n 0 lo:Nat):Int)/\(sliceBounds lo hi none n).2.1=((HT.sIx n n hi:Nat):Int)/\(sliceBounds lo hi none n).2.2=1:=by
 refine ⟨?_,?_,rfl⟩
 ·cases lo with
  | none=>simp[sliceBounds,HT.sIx]
  | some i =>
   simp only[sliceBounds,HT.sIx,Bi,show (1:Int)>0 by decide,if_true]
   by_cases h:i<0
   ·simp only[h,if_true] <;> lia
   ·simp only[h,if_false] <;> lia
 ·cases hi with
  | none=>simp[sliceBounds,HT.sIx]
  | some i =>
   simp only[sliceBounds,HT.sIx,Bi,show (1:Int)>0 by decide,if_true]
   by_cases h:i<0
   ·simp only[h,if_true] <;> lia
   ·simp only[h,if_false] <;> lia
theorem ia (its:List ug)(lo hi:Option Int):slicePick its.toArray lo hi none=((its.drop (HT.sIx its.length 0 lo)).take (HT.sIx its.length its.length hi-HT.sIx its.length 0 lo)).toArray:=by
 obtain ⟨h1,h2,h3⟩:=jb lo hi its.toArray.size
 unfold slicePick
 rw[h1,h2,h3]
 simp only[sliceRange_one,pick_run,uu] <;> rfl
def rSlL (K:uh):V->Option Int->Option Int->Hp->VK->Prop:=λx lo hi H Q=>∃a xs,x = .ref a/\SqL K H a xs/\∀p,H p=none->Q (.ref p) (upd H p (.lst (pC xs lo hi)))
theorem sl_list:SlR X (rSlL X.K):=by
 intro pins s σ H x v vl vu lo hi sl Q I rx hs pl pu h
 obtain ⟨a,xs,rfl,hx,q⟩:=h
 cases rx
 obtain ⟨its,r,ht,hz⟩:=I.list hx
 have hlen:=r.length
 refine ⟨"list",_,slot_list_getitem.lookup,ht.isList.typeIs,?_⟩
 refine wpAny_getItem_list_slice ht.isList hs pl pu .none (by simp) ?_ (by rw[uu] <;> lia)
 rw[ia, <- hlen]
 refine ⟨.ref s.heap.objs.size,_,I.laid (t':=s.toks) (o :=.lst (pC xs lo hi)) (λb ob q=>uq _ q) (ur _) ?_,rfl,q _ (I.hok.fresh (ur _))⟩
 exact ⟨vc (jL xs lo hi) hz,_,0,(r.drop (HT.sIx xs.length 0 lo)).take (HT.sIx xs.length xs.length hi-HT.sIx xs.length 0 lo),uU _ rfl⟩
def eQ:V->Bool
 | .non=>true
 | .bl _=>true
 | .int _=>true
 | .str _=>true
 | _=>false
def eqV:V->V->Bool
 | .non,.non=>true
 | .bl a,.bl b=>a == b
 | .bl a,.int b=>(if a then 1 else 0) == b
 | .int a,.bl b=>a == (if b then 1 else 0)
 | .int a,.int b=>a == b
 | .str a,.str b=>a == b
 | _,_=>false
theorem rO {A:vz}{s:uj}{y x:V}{u v:ug}(ry:RelV y u)(rx:RelV x v)(fy:eQ y=true)(fx:eQ x=true):yi A s u v (eqV y x):=by
 cases y with
 | non =>
  cases ry
  cases x with
  | non=>cases rx;exact zY _
  | bl b=>cases rx;exact SeqAt.EqAt.none_bool b
  | int b=>obtain ⟨t,rfl⟩:=rx;exact SeqAt.EqAt.none_int b t
  | str b=>obtain ⟨t,rfl⟩:=rx;exact SeqAt.EqAt.none_str b t
  | _=>exact absurd (show false=true from fx) uP
 | bl a =>
  cases ry
  cases x with
  | non=>cases rx;exact SeqAt.EqAt.bool_none a
  | bl b=>cases rx;exact Ad a b
  | int b=>obtain ⟨t,rfl⟩:=rx;exact SeqAt.EqAt.bool_int a b t
  | str b=>obtain ⟨t,rfl⟩:=rx;exact SeqAt.EqAt.bool_str a b t
  | _=>exact absurd (show false=true from fx) uP
 | int a =>
  obtain ⟨t',rfl⟩:=ry
  cases x with
  | non=>cases rx;exact SeqAt.EqAt.int_none a t'
  | bl b=>cases rx;exact SeqAt.EqAt.int_bool a t' b
  | int b=>obtain ⟨t,rfl⟩:=rx;exact ym a t' b t
  | str b=>obtain ⟨t,rfl⟩:=rx;exact Aw a t' b t
  | _=>exact absurd (show false=true from fx) uP
 | str a =>
  obtain ⟨t',rfl⟩:=ry
  cases x with
  | non=>cases rx;exact SeqAt.EqAt.str_none a t'
  | bl b=>cases rx;exact SeqAt.EqAt.str_bool a t' b
  | int b=>obtain ⟨t,rfl⟩:=rx;exact Ax a t' b t
  | str b=>obtain ⟨t,rfl⟩:=rx;exact AA a t' b t
  | _=>exact absurd (show false=true from fx) uP
 | _=>exact absurd (show false=true from fy) uP
def eqU (x:V)(u:ug):Bool:=match u with
 | .none=>eqV .non x
 | .bool b=>eqV (.bl b) x
 | .int i _=>eqV (.int i) x
 | .str z _=>eqV (.str z) x
 | _=>false
theorem nZ {x y:V}{u:ug}(r:RelV y u)(f:eQ y=true):eqU x u=eqV y x:=by
 cases y with
 | non=>cases r;rfl
 | bl b=>cases r;rfl
 | int i=>obtain ⟨t,rfl⟩:=r;rfl
 | str z=>obtain ⟨t,rfl⟩:=r;rfl
 | _=>exact absurd (show false=true from f) uP
theorem eR {x:V}:∀{xs:List V} {us:List ug},Vals xs us->xs.all eQ=true->us.any (eqU x)=xs.any λy=>eqV y x
 | _,_,.nil,_=>rfl
 | y :: xs,u :: us,.cons r t,f=>by
  rw[BR,vZ] at f
  rw[zA,zA,nZ r f.1,eR t f.2]
theorem du {A:vz}{s:uj}{x:V}{v:ug}(rx:RelV x v)(fx:eQ x=true):∀{xs:List V} {us:List ug},Vals xs us->xs.all eQ=true->∀u∈us,yi A s u v (eqU x u)
 | _,_,.nil,_=>λu hu=>by cases hu
 | y :: xs,u :: us,.cons r t,f=>λu' hu=>by
  rw[BR,vZ] at f
  rcases vn.mp hu with rfl | hu
  ·rw[nZ r f.1];exact rO r rx f.1 fx
  ·exact du rx fx t f.2 u' hu
def inV (x:V)(xs:List V):Bool:=xs.any λy=>eqV y x
def rIn (K:uh)(neg:Bool):R2:=λx y H Q=>∃p xs,y = .ref p/\(SqL K H p xs\/SqT K H p xs)/\eQ x=true/\xs.all eQ=true/\Q (.bl (if neg then !inV x xs else inV x xs)) H
theorem mE:OpR X (wq .In) (rIn X.K false):=by
 intro pins s σ H x y v u Q I rx ry h
 obtain ⟨p,xs,rfl,hq,fx,fs,q⟩:=h
 cases ry
 rcases hq with hq | hq
 ·obtain ⟨its,r,pl,hz⟩:=I.list hq
  refine SeqAt.in_listAt (eqU x) pl.isList (λw hw=>du rx fx r fs w (by simpa using hw)) ⟨.bl _,H,I,rfl,?_⟩
  rw[show its.toArray.any (eqU x)=its.any (eqU x) by simp,eR r fs]
  exact q
 ·obtain ⟨its,r,pl,hz⟩:=I.tuple hq
  refine Bj (eqU x) pl (λw hw=>du rx fx r fs w (by simpa using hw)) ⟨.bl _,H,I,rfl,?_⟩
  rw[show its.toArray.any (eqU x)=its.any (eqU x) by simp,eR r fs]
  exact q
theorem jf:OpR X (wq .NotIn) (rIn X.K true):=by
 intro pins s σ H x y v u Q I rx ry h
 obtain ⟨p,xs,rfl,hq,fx,fs,q⟩:=h
 cases ry
 rcases hq with hq | hq
 ·obtain ⟨its,r,pl,hz⟩:=I.list hq
  refine AB (eqU x) pl.isList (λw hw=>du rx fx r fs w (by simpa using hw)) ⟨.bl _,H,I,rfl,?_⟩
  rw[show its.toArray.any (eqU x)=its.any (eqU x) by simp,eR r fs]
  exact q
 ·obtain ⟨its,r,pl,hz⟩:=I.tuple hq
  refine Am (eqU x) pl (λw hw=>du rx fx r fs w (by simpa using hw)) ⟨.bl _,H,I,rfl,?_⟩
  rw[show its.toArray.any (eqU x)=its.any (eqU x) by simp,eR r fs]
  exact q
theorem ck:bO X (.builtin "len") (λxs H Q=>∃p ys,xs=[.ref p]/\(SqL X.K H p ys\/SqT X.K H p ys)/\Q (.int ys.length) H):=by
 intro pins s σ H xs us Q I r h
 obtain ⟨p,ys,rfl,hq,q⟩:=h
 obtain ⟨u,rfl,rx⟩:=vals1 r
 cases rx
 have hn:=eB
 rcases hq with hq | hq
 ·obtain ⟨its,r',pl,hz⟩:=I.list hq
  have hlen:=r'.length
  exact Calls.call_len_list pl.isList (by simp only[uu] <;> lia) ⟨.int ys.length,H,I.tok _,⟨s.toks+1,by rw[uu,hlen]⟩,q⟩
 ·obtain ⟨its,r',pl,hz⟩:=I.tuple hq
  have hlen:=r'.length
  exact len_tuple pl (by simp only[uu] <;> lia) ⟨.int ys.length,H,I.tok _,⟨s.toks+1,by rw[uu,hlen]⟩,q⟩
theorem aU:bO X (.type "tuple") (λxs H Q=>∃p ys,xs=[.ref p]/\((SqL X.K H p ys/\∀l,H l=none->Q (.ref l) (upd H l (.tup ys)))\/(SqT X.K H p ys/\Q (.ref p) H))):=by
 intro pins s σ H xs us Q I r h
 obtain ⟨p,ys,rfl,h⟩:=h
 obtain ⟨u,rfl,rx⟩:=vals1 r
 cases rx
 rcases h with ⟨hq,q⟩ | ⟨hq,q⟩
 ·obtain ⟨its,r',pl,hz⟩:=I.list hq
  have hlen:=r'.length
  refine call_tuple_list pl.isList (λh' kp =>?_) (by simp only[uu] <;> lia)
  have I1:Inv X pins σ H { s with heap:=h' }:=I.kept (t':=s.toks) kp
  have I2:Inv X pins σ (upd H h'.objs.size (.tup ys)) { s with heap:=h'.push { cls :=.type "tuple",data :=.seq its.toArray } } :=
   I1.laid (t':=s.toks) (λb o e=>uq _ e) (ur _) (show bp X.prog X.w _ _ _ (.tup ys) from ⟨hz,its,r',d7.new _ _⟩)
  exact ⟨.ref h'.objs.size,_,I2,rfl,q _ (I1.hok.fresh (ur _))⟩
 ·obtain ⟨its,r',pl,hz⟩:=I.tuple hq
  exact call_tuple_same pl ⟨.ref p,H,I,rfl,q⟩
def tyV (K:uh)(T:String)(x:V)(H:Hp):Prop:=match x with
 | .str _=>T = "str"
 | .int _=>T = "int"
 | .ref p=>(T = "list" /\ ∃xs,SqL K H p xs)\/(T = "tuple" /\ ∃o,K.lookup p=some o/\o.cls = .type "tuple" /\ o.dict=none) ∨
   (T = "dict" /\ ((∃kvs,H p=some (.dK kvs))\/∃kvs,H p=some (.dT kvs)))\/(T = "set" /\ ∃S n,H p=some (.set S n))
 | _=>False
theorem rP {pins:List (Addr×Obj)}{σ:St}{H:Hp}{s:uj}{T:String}{x:V}{v:ug}(I:Inv X pins σ H s)(r:RelV x v)(ty:tyV X.K T x H) :
  s.TypeIs v T/\∀a,v = .ref a->∃ob,s.heap.get? a=some ob/\ob.dict=none:=by
 cases x with
 | str z =>
  obtain ⟨t,rfl⟩:=r
  cases (show T = "str" from ty)
  exact ⟨typeIs_str s z t,λ_ e=>nomatch e⟩
 | int i =>
  obtain ⟨t,rfl⟩:=r
  cases (show T = "int" from ty)
  exact ⟨typeIs_int s i t,λ_ e=>nomatch e⟩
 | ref p =>
  cases r
  rcases ty with ⟨rfl,xs,hq⟩ | ⟨rfl,o,hk,hc,hd⟩ | ⟨rfl,hk⟩ | ⟨rfl,S,n,hk⟩
  ·obtain ⟨its,_,pl,_⟩:=I.list hq
   refine ⟨pl.isList.typeIs,λa e =>?_⟩
   cases e
   obtain ⟨o,n,e,c,hd,_⟩:=pl
   exact ⟨o,e,hd⟩
  ·refine ⟨⟨o,I.kIn p o hk,hc⟩,λa e =>?_⟩
   cases e
   exact ⟨o,I.kIn _ o hk,hd⟩
  ·have z:∃o,s.heap.get? p=some o/\o.ExactDict:=by
    rcases hk with ⟨kvs,hk⟩ | ⟨kvs,hk⟩
    ·obtain ⟨_,_,_,_,o,_,_,e,ex,_⟩:=I.hok p _ hk
     exact ⟨o,e,ex⟩
    ·obtain ⟨_,_,_,_,o,_,_,e,ex,_⟩:=I.hok p _ hk
     exact ⟨o,e,ex⟩
   obtain ⟨o,e,ex⟩:=z
   refine ⟨⟨o,e,ex.1⟩,λa e2 =>?_⟩
   cases e2
   exact ⟨o,e,ex.2.1⟩
  ·obtain ⟨o,_,_,_,e,ex,_⟩:=I.hok p _ hk
   refine ⟨⟨o,e,ex.1⟩,λa e2 =>?_⟩
   cases e2
   exact ⟨o,e,ex.2.1⟩
 | _=>exact False.elim ty
def tBM (K:uh)(T:String)(r:V->List V->Hp->VK->Prop)(to:TE)(t:TA):TE:=λσ H Q=>to σ H λx H1=>tyV K T x H1/\t σ H1 λxs H2=>r x xs H2 Q
variable  {o e:Expr}{es:List Expr}{to:TE}{t:TA}{name:Str}{apos cpos:Pos}{T id:String}{r:V->List V->Hp->VK->Prop}
theorem bS (pa:PlainAttrs T)(slot:Slot T name id)(hty:typeOf (.builtin id)=pure (.type "method_descriptor"))(hm:MtR X id r)(ho:PE X o to)(ha:PA X (e :: es) t)
  (hbase:attributeBase o name X.env (eval o X.env)=eval o X.env:=by rfl)
  (hfew:((yX cpos (vG (e :: es) X.env)).all (λx => !x.1) && (backToKw cpos (keywordEach [] X.env)).all (λx=>x.1.isSome)
   && decide ((e :: es).length+([]:List Keyword).length+(if ([]:List Keyword).isEmpty then 0 else 1)<30))=true:=by rfl)
  (hline:(apos.endLine == cpos.line)=true:=by rfl) (hs:vG (e :: es) X.env=(false,eval e X.env) :: vG es X.env:=by rfl) (hplain:(yX cpos (vG es X.env)).any (·.1)=false:=by rfl) :
  PE X (.Call (.Attribute o name apos) (e :: es) [] cpos) (tBM X.K T r to t):=by
 intro pins s σ H Q I h
 refine wpAny_Call_method_late hbase hfew hline rfl (thn (ho pins s σ H _ I h) λv s1 ⟨x,H1,I1,r1,ty,q1⟩ =>?_)
 obtain ⟨h1,h2⟩:=rP I1 r1 ty
 refine ⟨T,id,pa,slot,hty,h1,h2,?_⟩
 have hA:=ha cpos pins s1 σ H1 _ I1 q1
 rw[hs] at hA ⊢
 refine Calls.callWith_builtin (by show (false || (yX cpos (vG es X.env)).any (·.1))=false;rw[hplain] <;> rfl) (Ae ?_)
 exact thn hA λus s2 ⟨vs,H2,I2,r2,q2⟩=>hm pins s2 σ H2 x vs v us Q I2 r1 r2 q2
end
open PySem PySem.Spec PyProof.Rows
def MtM (X:Cx)(id:String)(r:V->List V->Hp->VK->Prop):Prop :=
 ∀(pins:List (Addr×Obj)) (s:uj) (σ:St) (H:Hp) (x:V) (xs:List V) (v:ug) (us:List ug) (Q:VK),Inv X pins σ H s->RelV x v->Vals xs us->r x xs H Q →
  vm (vk X.prog X.w) X.A (call (.builtin id) (v :: us)) (EP X pins σ Q) X.xe s
theorem Vals.one:∀{x:V} {us:List ug},Vals [x] us->∃u,us=[u]/\RelV x u
 | _,_,.cons r .nil=>⟨_,rfl,r⟩
section
variable  {X:Cx}{pins:List (Addr×Obj)}{σ:St}{H:Hp}{s:uj}{l b:Addr}{xs ys zs:List V}
theorem Inv.pF {its its':List ug}{n:Nat}{f:Array ug->Array ug}{t':Nat}(I:Inv X pins σ H s)(hH:H l=some (.lst xs))
  (e:s.heap.get? l=some { cls :=.type "list",data :=.seq its.toArray n }) (hf:f its.toArray=its'.toArray) (hv:Vals ys its') (hz:ys.length<=uL) :
  Inv X pins σ (upd H l (.lst ys)) { s with heap:=s.heap.update l (wH f),toks:=t' }:=by
 have q:=PySem.IsL.update e f
 rw[hf] at q
 refine I.write (x:=l) (e:=l) (by rw[hH];exact trivial) (.inl rfl) (λb' u hb hu=>(v9 s.heap (wH f) (w6 hb)).trans hu) ⟨_,q⟩ ?_
 exact ⟨hz,its',_,hv,q⟩
theorem Inv.lnew {its:List ug}{t':Nat}(I:Inv X pins σ H s)(hv:Vals ys its)(hz:ys.length<=uL) :
  Inv X pins σ (upd H s.heap.objs.size (.lst ys)) { s with heap:=s.heap.push { cls :=.type "list",data :=.seq its.toArray },toks:=t' } :=
 I.laid (λ_ _ q=>uq _ q) (ur _) ⟨hz,its,0,hv,uU _ rfl⟩
theorem Inv.fresh (I:Inv X pins σ H s):H s.heap.objs.size=none:=I.hok.fresh (ur _)
theorem Inv.pG (I:Inv X pins σ H s)(hH:H l=some (.lst xs)):xs.length<=uL/\∃(its:List ug) (n:Nat),Vals xs its/\xs.length=its.length/\s.heap.get? l=some { cls :=.type "list",data :=.seq its.toArray n }:=by
 obtain ⟨z,its,n,r,e⟩:=I.hok l _ hH
 exact ⟨z,its,n,r,r.length,e⟩
end
section
variable  {X:Cx}
def pH:V->List V->Hp->VK->Prop:=λx vs H Q=>∃l xs y,x = .ref l/\vs=[y]/\H l=some (.lst xs)/\xs.length<uL/\Q .non (upd H l (.lst (xs++[y])))
theorem bH:MtM X "list.append" pH:=by
 intro pins s σ H x vs v us Q I rx rv h
 obtain ⟨l,xs,y,rfl,rfl,hH,hz,q⟩:=h
 cases rx
 obtain ⟨u,rfl,ru⟩:=rv.one
 obtain ⟨z,its,n,r,hl,e⟩:=I.pG hH
 refine zx F.slot_list_append ⟨_,e,rfl⟩ F.entry_list_append (F.args_list_append_2 _ _) (PySem.list_append l its.toArray n u (by rw[uu];lia)) ⟨e,?_⟩
 refine ⟨.non,_,I.pF (its':=its++[u]) hH e (by simp) (r.append (.cons ru .nil)) ?_,rfl,q⟩
 rw[uv,vF]
 lia
end
section
variable  {prog:uM}{w:vt}{A:vz}{E:ug->uj->Prop}{s:uj}
end
section
variable  {X:Cx}
end
end L2
namespace Att
open PySem PySem.W PySem.Calls PyProof.Rows
theorem fW {P:Params}{h:Heap}:∀(ns:List Int) (vs:List ug),WellAll P h vs (ns.map WData.int)->xW vs ns:=by
 intro ns
 induction ns with
 | nil =>
  intro vs w
  rw[BZ] at w
  cases w
  exact .nil
 | cons n ns ih =>
  intro vs w
  rw[vg] at w
  cases w with
  | cons a b =>
   cases a
   exact .cons _ _ (ih _ b)
theorem mF {l:OpenLaw}{n:Nat}(hn:l.most=some n){P:Params}{h:Heap}{args:List WData}{vals:List ug}
  (hpre:l.row.toRowW.claim.pre args=true) (hwl:WellAll P h vals args) :
  ∃a vs ns,vals=[uW a]/\args=[WData.list (ns.map WData.int)]/\h.get? a=some { cls :=.type "list",data :=.seq vs.toArray }/\xW vs ns/\ns.length<=n:=by
 have hsh:WShape.hasAll [] args [.list .int]=true:=(pre_splitW hpre).1
 have hc:l.pre.holds [] { args:=args }=true:=(pre_splitW hpre).2
 obtain ⟨d,r,rfl,h1,h2⟩:=hasAllW_cons hsh
 obtain rfl:=hasAllW_nil h2
 obtain ⟨xs,rfl,h3⟩:=hasW_list h1
 obtain ⟨ns,rfl⟩:=items_int h3
 have hlen:ns.length<=n:=by
  unfold OpenLaw.pre at hc
  have h4:(WTm.not (.lt (.lit (.int (n:Int))) (.len (.arg 0)))).holds [] { args:=[.list (ns.map .int)] }=true:=by
   have h4:=(holds_andW hc).1
   rw[hn] at h4
   exact h4
  have h5:=condW_of h4 (w_not (w_lt w_lit (w_len_list (w_arg rfl))))
  rw[ue] at h5
  refine yw λq =>?_
  have q':(n:Int)<((ns.length:Nat):Int):=by omega
  first
   | (rw[decide_eq_true q'] at h5;exact absurd h5 (by decide))
   | (simp at h5;omega)
 cases hwl with
 | cons w1 w2 =>
  cases w2
  cases w1 with
  | list ho hall=>exact ⟨_,_,ns,rfl,rfl,ho,fW ns _ hall,hlen⟩
theorem mG (l:OpenLaw)(args:List WData):l.row.toRowW.claim.post args (.bool true) args=true :=
 postW_of (r:=l.row.toRowW) (X:=(true == true))
  (show WShape.has [] (.bool true) .bool=true by first | rfl | decide | simp[WShape.has,WShape.arms,WShape.armsAll])
  (show (WTm.eq .res (.lit (.bool true))).value [] { args:=args,res:=some (.bool true),after:=args }=some (.bool (true == true)) from w_eq_bool (w_res rfl) w_lit) rfl
theorem jM {l:OpenLaw}{n:Nat}{q:uM}{loose:List Str}{XP:(Str->Option ug)->Heap->Prop}{YP:vt->Heap->Prop}{d:DefRec}
  (hn:l.most=some n) (hdf:d.params.defaults=[])
  (call:∀(w:vt) (s₀ s₁:uj) (mg mb:Str->Option ug) (fa:Addr) (o:Obj) (pm cd doc:ug) (a:Addr) (vs:List ug) (ns:List Int),
   Ground q loose [] XP w s₀ mg mb s₁.heap->YP w s₁.heap →
   s₁.heap.get? fa=some o->o.data = .func (docDef d.name d.params d.body d.scope pm cd doc)->s₁.heap.CodeRec cd d.name->mg d.name=some (.ref fa) →
   s₁.heap.get? a=some { cls :=.type "list",data :=.seq vs.toArray }->xW vs ns->ns.length<=n->s₁.gens = #[] →
   zJ (vk l.prog w) callerA (.call (.ref fa) ⟨[.ref a],[]⟩) (λr s'=>r = .ok (.ret (.bool true))/\OldK s₁.heap s'.heap/\s'.os=s₁.os/\AllBare s'.gens) s₁) :
  WalkO q loose XP YP l.row.toRowW d [] (λf vs=>PySem.call f vs):=by
 intro w s₀ s₁ mg mb G Y fa o pm cd doc dV kV ho hd hcd hD hmg hg args vals as hpre hlay hrd hwl hlo
 obtain rfl:dV = .none:=Dflts.none hD hdf
 obtain rfl:kV = .none:=Dflts.noKw hD
 obtain ⟨a,vs,ns,rfl,rfl,hobj,hints,hlen⟩:=mF hn hpre hwl
 refine enter_call (xK (call w s₀ s₁ mg mb fa o pm cd doc a vs ns G Y ho (fd_plain hd) hcd hmg hobj hints hlen hg) λr s' hq =>?_)
 obtain ⟨rfl,h2,h3,h4⟩:=hq
 exact ⟨.inl ⟨.bool true,.bool true,[],rfl,λ_=>rfl,.bool true,mG l _,λ_=>⟨List.Pairwise.nil,λ_ hm=>(nomatch hm)⟩⟩,h2,h3,h4⟩
section
variable  {prog:uM}{w:vt}{A:vz}{E:ug->uj->Prop}{s:uj}{K:Frag}
def ledger (h:Heap)(L d:Addr):List (Addr×Obj):=(vC h.objs.size).filterMap λa=>if a=L\/a=d then none else (h.get? a).map λo=>(a,o)
end
end Att
namespace L2
open PySem PySem.Spec PyProof.Rows
theorem iD:∀{vs:List ug} {ns:List Int},xW vs ns->Vals (ns.map V.int) vs
 | _,_,.nil =>.nil
 | _,_,.cons n t h =>.cons ⟨t,rfl⟩ (iD h)
def rQ (H:Hp):Prop:=∀b,H b=none\/∃o xs,H b=some (.frz o (.lst xs))
theorem n5 {P:uM}{w:vt}{K:uh}{mg mb:Str->Option ug}{CX:CXT}{k:Nat}{fa a:Addr}{fd:vD}{x:Str}{sp:Sp}{s₁:uj}{vs:List ug}{ns:List Int}
  (KX:K.In s₁.heap) (hns:s₁.heap.Ns vb mg) (hb:s₁.heap.Ns builtinsNs mb) (hbb:∀x:Str,x ≠ "__name__" -> mb x=vJ x) (hlim:s₁.heap.NoLimit) (hg:s₁.gens = #[])
  (ha:s₁.heap.get? a=some { cls :=.type "list",data :=.seq vs.toArray }) (hi:xW vs ns) (hl:ns.length<=uL) (hr:bT k callerA)
  (F:∀base:Heap,K.In base->base.Ns vb mg->bF P w K mg base CX k fa fd [x] sp) (hbind:∀(s:uj) (u:ug),BindsTo s fd ⟨[u],[]⟩ [(x,u)])
  (hsp:∀H:Hp,rQ H->SqL K H a (ns.map V.int)->sp [.ref a] H (λv _=>v = .bl true) λ_ _ _=>False)
  (hCX:∀H e s',CX [] H s₁ (λ_ _ _=>False) e s'->False) :
  zJ (vk P w) callerA (.call (.ref fa) ⟨[.ref a],[]⟩) (λr s'=>r = .ok (.ret (.bool true))/\OldK s₁.heap s'.heap/\s'.os=s₁.os/\AllBare s'.gens) s₁:=by
 have rv:=iD hi
 have lenV:=hi.length
 have core:∀H:Hp,rQ H->SqL K H a (ns.map V.int)->HOk P w H s₁.heap->(∀b,H b≠none->b=a)->(H a≠none->K.lookup a=none) →
   zJ (vk P w) callerA (.call (.ref fa) ⟨[.ref a],[]⟩) (λr s'=>r = .ok (.ret (.bool true))/\OldK s₁.heap s'.heap/\s'.os=s₁.os/\AllBare s'.gens) s₁:=by
  intro H hO hS hok hA hK
  have base_of:∀{b:Addr} {o:Obj},s₁.heap.get? b=some o->H b=none->(i5 s₁.heap H).get? b=some o:=λe n=>nD e n
  have noA:∀{b:Addr} {o:Obj} {es:Array DictEntry} {ep:Nat},s₁.heap.get? b=some o->o.data = .dict es ep->H b=none:=λ{b o es ep} e d=>by
   cases q:H b with
   | none=>rfl
   | some u =>
    have e':b=a:=hA b (by rw[q];simp)
    subst e'
    rw[ha] at e;cases e
    have d':Data.seq vs.toArray _=Data.dict es ep:=d
    cases d'
  have nsK:∀{b:Addr} {m:Str->Option ug},s₁.heap.Ns b m->(i5 s₁.heap H).Ns b m:=λ{b m} ⟨o,es,ep,e,d,r⟩=>⟨o,es,ep,base_of e (noA e d),d,r⟩
  have hKb:K.In (i5 s₁.heap H):=λb o e=>base_of (KX b o e) (by
   cases q:H b with
   | none=>rfl
   | some u =>
    have e':b=a:=hA b (by rw[q];simp)
    subst e'
    rw[hK (by rw[q];simp)] at e;cases e)
  have hM:Mod K mg (i5 s₁.heap H):=⟨hKb,nsK hns,⟨mb,nsK hb,hbb⟩,let ⟨mc,h1,h2⟩:=hlim;⟨mc,nsK h1,h2⟩⟩
  have e0:pB P w K mg (i5 s₁.heap H) callerA [] s₁ H:=⟨rfl,hM,λb o e=>o8 e,Nat.le_of_eq (mn _ _),trivial,λb hb=>absurd (show b∈([]:List Addr) from hb) (by simp),hok,.of_eq hg⟩
  refine xK ((F _ hKb (nsK hns)).run callerA [] s₁ H ⟨[.ref a],[]⟩ [.ref a] [.ref a] _ _ hr e0 (hbind s₁ (.ref a)) (.cons rfl .nil) (hsp H hO hS)) λr s' h =>?_
  cases r with
  | error e=>exact (hCX H e s' h).elim
  | ok fl =>
   cases fl with
   | next=>exact False.elim h
   | brk=>exact False.elim h
   | cont=>exact False.elim h
   | ret u =>
    obtain ⟨v,H',os,bare,un,hok',r',q⟩:=h
    have q':v = .bl true:=q
    subst q'
    obtain rfl:u=Value.bool true:=r'
    refine ⟨rfl,OldK.of_keep λb o e =>?_,os,bare⟩
    cases q:H b with
    | none=>exact un.keep b o e q (by intro z;exact absurd (show b∈([]:List Addr) from z) (by simp)) (by simp)
    | some u =>
     rcases hO b with z | ⟨ob,xs,z⟩
     ·rw[q] at z;cases z
     ·have z2:=un.frzs b ob _ z
      obtain ⟨e1,_⟩:=hok b _ z
      obtain ⟨e2,_⟩:=hok' b _ z2
      rw[e] at e1;cases e1
      exact e2
 cases hk:K.lookup a with
 | some o =>
  have e:=KX a o hk
  rw[ha] at e
  cases e
  refine core (λ_=>none) (λ_ =>.inl rfl) (.inr ⟨_,vs.toArray,_,hk,rfl,rfl,rfl,by rw[uu,lenV];exact hl,by simpa using rv⟩) (λb u z=>by have z':(none:Option HO)=some u:=z;cases z') (λb z=>absurd rfl z) λz=>absurd rfl z
 | none =>
  refine core (λb=>if b=a then some (.frz { cls :=.type "list",data :=.seq vs.toArray } (.lst (ns.map V.int))) else none) (λb =>?_) (.inl (.inr ⟨{ cls :=.type "list",data :=.seq vs.toArray },if_pos rfl⟩)) (λb u z =>?_) (λb z =>?_) λ_=>hk
  ·by_cases hb:b=a
   ·exact .inr ⟨_,_,if_pos hb⟩
   ·exact .inl (if_neg hb)
  ·by_cases hb:b=a
   ·have z':=(if_pos hb).symm.trans z
    cases z'
    subst hb
    exact ⟨ha,by rw[ue];exact hl,vs,_,rv,ha⟩
   ·have z':=(if_neg hb).symm.trans z
    cases z'
  ·by_cases hb:b=a
   ·exact hb
   ·exact absurd (if_neg hb) z
open PySem PySem.Spec PyProof.Rows
theorem pI {l:PySem.W.OpenLaw}{n k:Nat}{q:uM}{loose:List Str}{XP:(Str->Option ug)->Heap->Prop}{YP:vt->Heap->Prop}{d:DefRec}{K:Params->uh}{CX:vt->CXT}{sp:vt->Sp}{x:Str}
  (hn:l.most=some n) (hn2:n<=uL) (hdf:d.params.defaults=[]) (hr:bT k callerA)
  (hY:∀(w:vt) (h:Heap),YP w h->(K w.params).In h)
  (F:∀(w:vt) (mg:Str->Option ug) (fa:Addr) (h:Heap),(K w.params).In h->h.Ns vb mg->mg d.name=some (.ref fa) →
   ∃fd:vD,(∀(s:uj) (u:ug),BindsTo s fd ⟨[u],[]⟩ [(x,u)]) ∧
    ∀base:Heap,(K w.params).In base->base.Ns vb mg->bF l.prog w (K w.params) mg base (CX w) k fa fd [x] (sp w))
  (hsp:∀(w:vt) (H:Hp) (a:Addr) (ns:List Int),ns.length<=n->rQ H->SqL (K w.params) H a (ns.map V.int)->sp w [.ref a] H (λv _=>v = .bl true) λ_ _ _=>False)
  (hCX:∀(w:vt) (H:Hp) (s:uj) (e:ug) (s':uj),CX w [] H s (λ_ _ _=>False) e s'->False) :
  PySem.W.WalkO q loose XP YP l.row.toRowW d [] (λf vs=>PySem.call f vs):=by
 refine Att.jM hn hdf λw s₀ s₁ mg mb fa o pm cd doc a vs ns G Y ho hd hcd hmg hobj hints hlen hg =>?_
 have KX:=hY w _ Y
 obtain ⟨fd,hb,hF⟩:=F w mg fa _ KX G.T.g hmg
 exact n5 KX G.T.g G.T.b G.T.builtins G.T.nolimit hg hobj hints (vc hlen hn2) hr hF hb (λH hO hS=>hsp w H a ns hlen hO hS) λH e s'=>hCX w H s₁ e s'
open PySem PySem.Spec PyProof.Rows
def cp (s:Stmt):Arguments:=match s with
 | .FunctionDef _ a _ _ _ _ _ _ _ _=>a
 | _=>{ posonlyargs:=[],args:=[],vararg:=none,kwonlyargs:=[],kw_defaults:=[],kwarg:=none,defaults:=[] }
def bI (s:Stmt):List Stmt:=match s with
 | .FunctionDef _ _ b _ _ _ _ _ _ _=>b
 | _=>[]
def ao (s:Stmt):Scope:=match s with
 | .FunctionDef _ _ _ _ _ _ sc _ _ _=>sc
 | _=>{ kind :=.function,names:=[],isGenerator:=false,isCoroutine:=false }
abbrev CX0:CXT:=λ_ _ _ _ _ _=>False
abbrev E0:XK:=λ_ _ _=>False
theorem tL {X:Cx}:Passes CX0 X E0:=λ_ _ _ _ _ _ _ h=>h.elim
structure Fun (K:uh)(x qual:Str)(st:Stmt)(f:Addr)(fd:vD):Prop where
 ex:∃(oc:ug) (od:Option Addr) (kV doc pm:ug) (an:Option Addr) (cdv ct:ug) (osl:Array (Option ug)),
  fd=PySem.W.fnOf x qual (cp st) (bI st) (ao st) .none kV doc pm an cdv ct/\K.lookup f=some ⟨oc,od,.func fd,osl⟩/\PySem.W.codeIn K cdv qual=true
 kp:PySem.W.keepIn K (.ref f)=true
section
variable  {P:uM}{w:vt}{K:uh}{mg:Str->Option ug}{base:Heap}
theorem Fun.ok {x qual:Str}{st:Stmt}{f:Addr}{fd:vD}{N ps:List Str}{k:Nat}{sp:Sp}(F:Fun K x qual st f fd)(S:aI N ps (ao st))(len:∀vs H Q E,sp vs H Q E->vs.length=ps.length)
  (hbody:∀(cdv:ug) (A:vz) (outer:List Env) (s:uj) (H:Hp) (vs:List V) (Q:VK) (E:XK),bT k (A.deeper (envOfC qual (ao st) s.heap.objs.size f cdv))->sp vs H Q E →
   ∃t,PSs (gp CX0 P w K mg base N qual (ao st) f cdv A outer s H E).nox (bI st) t/\t { nx:=λ_ H'=>Q .non H',rt:=Q } (start N vs) H):bF P w K mg base CX0 (k+1) f fd ps sp:=by
 obtain ⟨oc,od,kV,doc,pm,an,cdv,ct,osl,rfl,lk,hcd⟩:=F.ex
 refine qI lk hcd S len λA outer s H vs Q E hr hsp =>?_
 obtain ⟨t,h,q⟩:=hbody cdv A outer s H vs Q E hr hsp
 exact ⟨t,h.nox,q⟩
theorem Fun.binds {x qual:Str}{st:Stmt}{f:Addr}{fd:vD}{ps:List Str}(F:Fun K x qual st f fd)
  (h:∀(kV doc pm:ug) (an:Option Addr) (cdv ct:ug) (us:List ug),us.length=ps.length->bindArgs (PySem.W.fnOf x qual (cp st) (bI st) (ao st) .none kV doc pm an cdv ct) ⟨us,[]⟩=pure (ps.zip us)):Binds K fd ps []:=by
 obtain ⟨oc,od,kV,doc,pm,an,cdv,ct,osl,rfl,lk,hcd⟩:=F.ex
 exact .all (h kV doc pm an cdv ct)
theorem kF {x qual:Str}{st:Stmt}{f:Addr}{oc:ug}{od an:Option Addr}{osl:Array (Option ug)}{kV doc pm cdv ct:ug}(l:K.lookup f=some ⟨oc,od,.func (PySem.W.fnOf x qual (cp st) (bI st) (ao st) .none kV doc pm an cdv ct),osl⟩)
  (c:PySem.W.codeIn K cdv qual=true) (k:PySem.W.keepIn K (.ref f)=true):Fun K x qual st f (PySem.W.fnOf x qual (cp st) (bI st) (ao st) .none kV doc pm an cdv ct):=⟨⟨oc,od,kV,doc,pm,an,cdv,ct,osl,rfl,l,c⟩,k⟩
end
theorem aW {n:Nat}(h:n<=1000):n<uL:=yT h (by decide)
section
variable  {X:Cx}
theorem pv (i:Nat){x:Str}{pos:Pos}(hN:X.N[i]? = some x:=by rfl)(hv:Vis X.env.scope x:=by first | exact Or.inl rfl | exact Or.inr (Or.inl rfl) | exact Or.inr (Or.inr rfl))(hd:(x == ("__debug__" : Str))=false:=by decide)
  (hcd:(x == ("__classdict__" : Str))=false:=by decide):PE X (.Name x pos) (sN i):=rh hN hv hd hcd
end
theorem cW {A B:Prop}(h:B):if false=true then A else B:=by
 rw[if_neg uP]
 exact h
theorem fw {A B:Prop}(h:A):if true=true then A else B:=by
 rw[if_pos rfl]
 exact h
theorem bU {c A B:Prop}[Decidable c](h1:c->A)(h2:¬ c->B):if c then A else B:=by
 by_cases h:c
 ·rw[if_pos h]
  exact h1 h
 ·rw[if_neg h]
  exact h2 h
theorem tM {c A B:Prop}[Decidable c](hc:c)(h:B):if (!decide c)=true then A else B:=by
 rw[decide_eq_true hc]
 exact cW h
def aD (H H':Hp):Prop:=∀b o,H b=some o->H' b=some o
theorem aD.refl (H:Hp):aD H H:=λ_ _ h=>h
theorem aD.trans {H H1 H2:Hp}(a:aD H H1)(b:aD H1 H2):aD H H2:=λc o h=>b c o (a c o h)
theorem aD.free {H H':Hp}(e:aD H H'){l:Addr}(h:H' l=Option.none):H l=Option.none:=by
 cases q:H l with
 | none=>rfl
 | some o =>
  rw[e l o q] at h
  cases h
theorem aD.seq {K:uh}{H H':Hp}{a:Addr}{xs:List V}(e:aD H H')(h:SqL K H a xs):SqL K H' a xs:=by
 rcases h with (h | ⟨o,h⟩) | h
 ·exact .inl (.inl (e _ _ h))
 ·exact .inl (.inr ⟨o,e _ _ h⟩)
 ·exact .inr h
end L2
set_option maxHeartbeats 4000000
namespace L2
open PySem PySem.Spec PyProof.Rows
def jN (on:List (Str×NameKind))(N:List Str)(sc:Scope)(N':List Str)(ix:List (Option Nat)):Bool :=
 decide (sc.kind = .function) &&
 sc.names.all (λy=>match y.2 with
  | .local=>decide (sc.names.lookup y.1=some .local)
  | .cell=>false
  | .free=>decide (on.lookup y.1=some .cell) || decide (on.lookup y.1=some .free)
  | _=>true) &&
 decide (ix.length=N'.length) &&
 (ix.zip N').all (λp=>match p.1 with
  | none=>true
  | some j=>decide (N[j]? = some p.2) && decide (sc.names.lookup p.2=some .free))
theorem fO {ns:List (Str×NameKind)}{y:Str}{k:NameKind}(h:ns.lookup y=some k):(y,k)∈ns:=wR h
structure gs (on:List (Str×NameKind))(N:List Str)(sc:Scope)(N':List Str)(ix:List (Option Nat)):Prop where
 kind:sc.kind = .function
 locs:∀y∈sc.names,y.2 = .local->sc.names.lookup y.1=some .local
 nocell:∀y∈sc.names,y.2 ≠ .cell
 frees:∀y∈sc.names,y.2 = .free->on.lookup y.1=some .cell\/on.lookup y.1=some .free
 len:ix.length=N'.length
 slot:∀(i j:Nat) (y:Str),ix[i]? = some (some j)->N'[i]? = some y->N[j]? = some y/\sc.names.lookup y=some .free
theorem gs.of {on:List (Str×NameKind)}{N:List Str}{sc:Scope}{N':List Str}{ix:List (Option Nat)}(h:jN on N sc N' ix=true):gs on N sc N' ix:=by
 unfold jN at h
 rw[vZ,vZ,vZ] at h
 obtain ⟨⟨⟨h1,h2⟩,h3⟩,h4⟩:=h
 rw[yx] at h2 h4
 refine ⟨of_decide_eq_true h1,λy hy e =>?_,λy hy e =>?_,λy hy e =>?_,of_decide_eq_true h3,λi j y e1 e2 =>?_⟩
 ·have q:=h2 y hy
  rw[e] at q
  exact of_decide_eq_true q
 ·have q:=h2 y hy
  rw[e] at q
  cases q
 ·have q:=h2 y hy
  rw[e] at q
  exact ((Bool.or_eq_true _ _).mp q).imp of_decide_eq_true of_decide_eq_true
 ·have q:=h4 (some j,y) (uS (i:=i) (by rw[yZ];exact ⟨e1,e2⟩))
  dsimp only at q
  rw[vZ] at q
  exact ⟨of_decide_eq_true q.1,of_decide_eq_true q.2⟩
theorem fP {α β:Type}(f:α -> β -> β)(b:α -> β -> Sem (ForInStep β)):∀(l:List α) (c:β),(∀x∈l,∀d,b x d=pure (.yield (f x d)))->forIn l c b=pure (l.foldl (λd x=>f x d) c)
 | [],c,_=>rfl
 | x :: l,c,h=>by
  rw[List.forIn_cons,h x uZ,pure_bind]
  exact fP f b l (f x c) λy hy=>h y (u6 _ hy)
def aG (env:Env)(l:List (Str×NameKind))(c:List (Str×Addr)):List (Str×Addr) :=
 l.foldl (λd y=>if y.2 = .free then (y.1,(env.cells.lookup y.1).getD 0) :: d else d) c
theorem kG {sc:Scope}{env:Env}(h:∀y∈sc.names,y.2 = .free->∃c,env.cells.lookup y.1=some c):closureFor sc env=pure (aG env sc.names []):=by
 simp only[closureFor]
 unfold aG
 rw[fP (λy d=>if y.2 = .free then (y.1,(env.cells.lookup y.1).getD 0) :: d else d)]
 ·rfl
 ·rintro ⟨n,k⟩ hy d
  by_cases hk:k = .free
  ·subst hk
   obtain ⟨c,e⟩:=h _ hy rfl
   have e':env.cells.lookup n=some c:=e
   simp only[beq_self_eq_true,if_true,cellOf,e',Option.getD_some]
   rfl
  ·have hb:(k == NameKind.free)=false:=by simpa using hk
   simp only[hb,uQ,if_false,hk]
theorem cq {env:Env}{y:Str}{c:Addr}:∀(l:List (Str×NameKind)) (d:List (Str×Addr)),(∀z∈l,z.2 = .free->∃c,env.cells.lookup z.1=some c)->(aG env l d).lookup y=some c →
  d.lookup y=some c\/env.cells.lookup y=some c
 | [],d,_,h =>.inl h
 | (n,k) :: l,d,hf,h=>by
  have h':(aG env l (if k = .free then (n,(env.cells.lookup n).getD 0) :: d else d)).lookup y=some c:=h
  have ih:=cq l _ (λz hz=>hf z (u6 _ hz)) h'
  by_cases hk:k = .free
  ·subst hk
   rw[if_pos rfl] at ih
   rcases ih with q | q
   ·rw[x6] at q
    cases hx:(y == n) with
    | true =>
     rw[hx] at q
     obtain ⟨c',e⟩:=hf (n,.free) uZ rfl
     have e':env.cells.lookup n=some c':=e
     have q':some ((env.cells.lookup n).getD 0)=some c:=q
     rw[e'] at q'
     have en:y=n:=eq_of_beq hx
     rw[en,e']
     exact .inr q'
    | false =>
     rw[hx] at q
     exact .inl q
   ·exact .inr q
  ·rw[if_neg hk] at ih
   exact ih
theorem cX {env:Env}{y:Str}:∀(l:List (Str×NameKind)) (d:List (Str×Addr)),((y,NameKind.free)∈l\/∃c,d.lookup y=some c)->∃c,(aG env l d).lookup y=some c
 | [],d,h=>by
  rcases h with h | h
  ·cases h
  ·exact h
 | (n,k) :: l,d,h=>by
  show ∃c,(aG env l (if k = .free then (n,(env.cells.lookup n).getD 0) :: d else d)).lookup y=some c
  refine cX l _ ?_
  have old:(∃c,d.lookup y=some c)->∃c,(if k = .free then (n,(env.cells.lookup n).getD 0) :: d else d).lookup y=some c:=λ⟨c,e⟩=>by
   by_cases hk:k = .free
   ·rw[if_pos hk,x6]
    cases hx:(y == n) with
    | true=>exact ⟨_,rfl⟩
    | false=>exact ⟨c,e⟩
   ·rw[if_neg hk];exact ⟨c,e⟩
  rcases h with h | h
  ·rcases vn.mp h with q | q
   ·cases q
    rw[if_pos rfl,x6,beq_self_eq_true]
    exact .inr ⟨_,rfl⟩
   ·exact .inl q
  ·exact .inr (old h)
theorem gu {c:Str->NameKind->Bool}{y:Str}:∀l:List (Str×NameKind),(l.map λz=>if c z.1 z.2=true then (z.1,NameKind.cell) else (z.1,z.2)).lookup y=(l.lookup y).map λk=>if c y k=true then NameKind.cell else k
 | []=>rfl
 | (n,k) :: l=>by
  have ih:=gu (c:=c) (y:=y) l
  rw[vg]
  have e:(if c n k=true then (n,NameKind.cell) else (n,k))=(n,if c n k=true then NameKind.cell else k):=by split <;> rfl
  show List.lookup y ((if c n k=true then (n,NameKind.cell) else (n,k)) :: _)=_
  rw[e,x6,x6]
  cases hx:(y == n) with
  | true =>
   have en:y=n:=eq_of_beq hx
   subst en
   rfl
  | false=>exact ih
def blk (X:Cx)(sc:Scope)(cl:List (Str×Addr))(C:Addr)(N':List Str)(s:uj)(H:Hp)(fp:List Addr):Cx :=
 { X with N:=N',s₀:=s,H₀:=H,env:=compEnvC sc cl C X.env,outer:=X.stack,ex:=fp,fn:=λ_=>false,pn:=[],xe:=λ_ _=>False }
def PF (X:Cx)(ifs:List Expr)(t:TT):Prop :=
  ∀(pins:List (Addr×Obj)) (s:uj) (σ:St) (H:Hp) (Q:Bool->Hp->Prop),Inv X pins σ H s->t σ H Q →
    vm (vk X.prog X.w) X.A (forIn ifs true λc r=>if r=true then do let ok ← isTrue c X.env (eval c X.env);pure (ForInStep.yield ok) else pure (ForInStep.yield r)) (TP X pins σ Q) X.xe s
theorem fz {X:Cx}:PF X [] (λ_ H Q=>Q true H):=λ_ _ _ H _ I h=>wpAny_tests_nil ⟨H,I,h⟩
theorem eC {X:Cx}{c:Expr}{t:TT}(h:PT X c t):PF X [c] t:=λpins s σ H Q I q=>wpAny_tests_one (h pins s σ H Q I q)
def inner (ix:List (Option Nat))(σ:St):St:=ix.map λo=>match o with | none=>none | some j=>(σ[j]?).join
def iE (J:It)(g:TG)(tc:TT)(te:TE)(τ:St)(Q:VK)(H1:Hp):Prop:=∃W:Nat->Nat->St->List V->Hp->Prop,(∃m,W 0 m τ [] H1)/\∀i m τ ys H,W i m τ ys H →
 (J.stop i H/\ys.length<=uL/\∀l,H l=none->Q (.ref l) (upd H l (.lst ys))) ∨
 (J.go i H/\∀x H',J.yld i H x H'->g x τ H' λτ2 H2=>tc τ2 H2 λb H3=>if b=true then te τ2 H3 λy H4=>ys.length<uL/\∃m',m'<m/\W (i+1) m' τ2 (ys++[y]) H4 else ∃m',m'<m/\W (i+1) m' τ2 ys H3)
def n6 (ix:List (Option Nat))(wi:TI)(g:TG)(tc:TT)(te:TE):TE:=λσ H Q=>wi σ H λJ H1=>iE J g tc te (inner ix σ) Q H1
section
variable  {X:Cx}{sc:Scope}{N':List Str}{ix:List (Option Nat)}{pins:List (Addr×Obj)}{σ:St}{H:Hp}{s:uj}
theorem rR (I:Inv X pins σ H s)(K:gs X.env.scope.names X.N sc N' ix){C:Addr}{fp:List Addr}(hC:s.heap.objs.size<=C)(f:∀b∈fp,ja X pins H b)(fl:∀b∈fp,b<s.heap.objs.size) :
  (blk X sc (aG X.env sc.names []) C N' s H fp).Ok:=by
 have hcl:∀y∈sc.names,y.2 = .free->∃c,X.env.cells.lookup y.1=some c:=λy hy e=>I.ok.has y.1 (K.frees y hy e)
 have up:∀y c,(aG X.env sc.names []).lookup y=some c->X.env.cells.lookup y=some c:=λy c e=>by
  rcases cq sc.names [] hcl e with q | q
  ·cases q
  ·exact q
 have nfs:∀b∈fp,b∉frs X.stack:=λb hb z=>by
  rcases vn.mp (I.i6 b z) with q | q
  ·exact (f b hb).2.1 q
  ·exact (f b hb).2.2.1 q
 refine ⟨I.ok.mod,K.kind,I.ok.glob,I.ok.blt,hC,λy z c h1 h2=>I.ok.inj y z c (up _ _ h1) (up _ _ h2),λy hy =>?_,(λy c h=>nomatch h),I.ok.hd,I.ok.frames,.inl rfl,λb hb =>?_,λb o e=>I.bs b o e,vc I.ok.bsz I.sz,λb o e hb =>?_,nfs,I.stack,I.i7⟩
 ·have hy':(relabel sc X.env).names.lookup y=some .cell\/(relabel sc X.env).names.lookup y=some .free:=hy
  have em:=gu (c:=λn k=>k == .free && X.env.scope.kind == .function && X.env.kindOf n == some .cell) (y:=y) sc.names
  have em':(relabel sc X.env).names.lookup y=_:=em
  rw[em'] at hy'
  cases hq:sc.names.lookup y with
  | none=>rw[hq] at hy';rcases hy' with q | q <;> cases q
  | some k =>
   have km:=fO hq
   have hk:k = .free:=by
    rw[hq] at hy'
    simp only[zZ,Option.some.injEq] at hy'
    by_cases hc:(k == .free && X.env.scope.kind == .function && X.env.kindOf y == some .cell)=true
    ·rw[vZ,vZ] at hc
     exact by simpa using hc.1.1
    ·rw[if_neg hc] at hy'
     rcases hy' with q | q
     ·exact absurd q (K.nocell _ km)
     ·exact q
   subst hk
   exact cX sc.names [] (.inl km)
 ·exact ⟨ve (uG (fl b hb) hC),λy c e=>(f b hb).2.2.2.2.1 y c (up y c e)⟩
 ·rcases (f b hb).2.2.2.1 with q | q
  ·exact I.ok.noex b o e q
  ·exact absurd (uG (uO e) (vc I.ok.bsz q)) (wb _)
theorem pJ (I:Inv X pins σ H s)(K:gs X.env.scope.names X.N sc N' ix){C:Addr}{fp:List Addr}(hC:s.heap.objs.size<=C)(f:∀b∈fp,ja X pins H b)(fl:∀b∈fp,b<s.heap.objs.size)
  {h1:Heap} {t:Nat} {m:Str->Option ug} (k:∀b o,s.heap.get? b=some o->h1.get? b=some o) (ns:h1.Ns C m) :
  Inv (blk X sc (aG X.env sc.names []) C N' s H fp) [] (inner ix σ) H { s with heap:=h1,toks:=t }:=by
 have hcl:∀y∈sc.names,y.2 = .free->∃c,X.env.cells.lookup y.1=some c:=λy hy e=>I.ok.has y.1 (K.frees y hy e)
 have up:∀y c,(aG X.env sc.names []).lookup y=some c->X.env.cells.lookup y=some c:=λy c e=>by
  rcases cq sc.names [] hcl e with q | q
  ·cases q
  ·exact q
 refine ⟨rR I K hC f fl,rfl,I.bare,Un.kept k,⟨m,ns,λi y v e1 e2 e3 =>?_⟩,λy c e =>?_,I.hok.fresh hC,λy c e=>I.freeC y c (up y c e),(λp hp=>nomatch hp),I.hok.kept k,?_⟩
 ·have e2':(ix.map λo=>match o with | none=>none | some j=>(σ[j]?).join)[i]? = some (some v):=e2
  rw[uF] at e2'
  cases hi:ix[i]? with
  | none=>rw[hi] at e2';cases e2'
  | some o =>
   cases o with
   | none=>rw[hi] at e2';cases e2'
   | some j =>
    rw[hi] at e2'
    have e4:(σ[j]?).join=some v:=vw e2'
    have e5:σ[j]? = some (some v):=by
     cases hj:σ[j]? with
     | none=>rw[hj] at e4;cases e4
     | some z=>rw[hj] at e4;rw[show z=some v from e4]
    obtain ⟨n1,n2⟩:=K.slot i j y hi e1
    have mem:=fO n2
    have kc:X.env.kindOf y=some .cell\/X.env.kindOf y=some .free:=K.frees _ mem rfl
    obtain ⟨m',_,hl⟩:=I.loc
    obtain ⟨u,r,l⟩:=hl j y v n1 e5 (.inr kc)
    refine ⟨u,r,?_⟩
    rcases l with ⟨q,_⟩ | ⟨_,c,q,z⟩
    ·rcases kc with kc | kc <;> (rw[kc] at q;cases q)
    ·obtain ⟨c',hc'⟩:=cX (env:=X.env) (y:=y) sc.names [] (.inl mem)
     have:=up y c' hc'
     rw[q] at this
     cases this
     refine .inr ⟨?_,c,hc',z.keeps k⟩
     have em:=gu (c:=λn k=>k == .free && X.env.scope.kind == .function && X.env.kindOf n == some .cell) (y:=y) sc.names
     have em':(relabel sc X.env).names.lookup y=_:=em
     rcases kc with kc | kc
     ·left
      show (relabel sc X.env).names.lookup y=some .cell
      rw[em',n2]
      simp only[zZ,kc,I.ok.kind]
      rfl
     ·right
      show (relabel sc X.env).names.lookup y=some .free
      rw[em',n2]
      simp only[zZ,kc,I.ok.kind]
      rfl
 ·obtain ⟨v,z⟩:=I.cell y c (up y c e)
  exact ⟨v,z.keeps k⟩
 ·show (ix.map _).length=N'.length
  rw[ue]
  exact K.len
end
open PySem PySem.Spec PyProof.Rows
theorem kI {prog:uM}{w:vt}{A:vz}{R:Result->uj->Prop}{s:uj}{elt target iter:Expr}{ifs:List Expr}{sc:Scope}{pos:Pos}{it acc:ug}{env:Env}(J:Nat->uj->Prop)
    (turn:∀n s,J n s->vm (vk prog w) A (pyNext it) (λr s1=>match r with
      | none=>R (.ok .next) s1
      | some v=>vm (vk prog w) A (letOwnedTupleGo target it v) (λ_ s2=>vm (vk prog w) A (assign target env v) (λ_ s3 =>
          vm (vk prog w) A (forIn ifs true λc r=>if r=true then do let ok ← isTrue c env (eval c env);pure (ForInStep.yield ok) else pure (ForInStep.yield r)) (λok s4 =>
            if ok=true then vm (vk prog w) A (eval elt env) (λx s5=>vm (vk prog w) A (call (.builtin "list.append") [acc,x]) (λ_ s6=>∃m,m<n/\J m s6) (λ_ _=>False) s5) (λ_ _=>False) s4
            else ∃m,m<n/\J m s4) (λ_ _=>False) s3) (λ_ _=>False) s2) (λ_ _=>False) s1) (λ_ _=>False) s)
    (n:Nat) (h:J n s):zJ (vk prog w) A (.compLoop (.ListComp elt [⟨target,iter,ifs,0⟩] sc pos) 0 it acc env) R s:=by
  refine codeAny_loop rfl J (λk t q =>?_) n h
  show vm _ A (Sem.onRaise (compTurn (.ListComp elt [⟨target,iter,ifs,0⟩] sc pos) 0 it acc env) (λx=>do noteFrame x env;theTreesLotGoes x)) _ _ t
  refine wpAny_noted ?_
  rw[compTurn_list]
  have no:∀{E:ug->uj->Prop} (x:ug) (t:uj),False->E x t:=λ_ _ z=>z.elim
  refine uf (AL (uf (wG (turn k t q) (λr s1 h1 =>?_) no)))
  cases r with
  | none=>exact uD h1
  | some v =>
    refine uf (wG h1 (λ_ s2 h2=>uf (wG h2 (λ_ s3 h3=>uf (wG h3 (λok s4 h4 =>?_) no)) no)) no)
    cases ok with
    | false=>exact uD ⟨rfl,h4⟩
    | true=>exact uf (uf (wG h4 (λx s5 h5=>uf (wG h5 (λ_ s6 h6=>uD (uD ⟨rfl,h6⟩)) no)) no))
section
variable  {X:Cx}
def pK (X:Cx)(pins:List (Addr×Obj))(σ:St)(Q:VK)(use:Option (ug->Sem Unit))(Q2:ug->uj->Prop):Prop :=
 ∀(s4:uj) (H3:Hp) (acc C:Addr) (ys:List V) (oC:Obj),Inv X (pins++[(C,oC)]) σ (upd H3 acc (.lst ys)) s4->(∃m,s4.heap.Ns C m)->X.s₀.heap.objs.size<=C->(∀x c,X.env.cells.lookup x=some c->c≠C)->(∀p∈X.pn++pins,p.1≠C)->Q (.ref acc) (upd H3 acc (.lst ys)) →
  compPost (vk X.prog X.w) X.A X.xe use Q2 (.ref acc) C (.ok .next) s4
theorem iF {elt target iter:Expr}{ifs:List Expr}{sc:Scope}{pos ps:Pos}{wi:TI}{g:TG}{tc:TT}{te:TE}{N':List Str}{ix:List (Option Nat)}{use:Option (ug->Sem Unit)}{Q2:ug->uj->Prop}
  {pins:List (Addr×Obj)} {s:uj} {σ:St} {H:Hp} {Q:VK}
  (hcalm:X.calm=true) (hi:PI X target iter wi) (hk:jN X.env.scope.names X.N sc N' ix=true)
  (hg:∀cl C s H fp,PG (blk X sc cl C N' s H fp) target g) (hc:∀cl C s H fp,PF (blk X sc cl C N' s H fp) ifs tc) (he:∀cl C s H fp,PE (blk X sc cl C N' s H fp) elt te)
  (hs:∀x,foldedSetIterable iter X.env x=pure x) (fin:pK X pins σ Q use Q2) (I:Inv X pins σ H s) (h:n6 ix wi g tc te σ H Q) :
  vm (vk X.prog X.w) X.A (comprehension (.ListComp elt [⟨target,iter,ifs,0⟩] sc pos) sc X.env ps (newList []) false (eval iter X.env) use) Q2 X.xe s:=by
 have K:=gs.of hk
 have hcl:∀y∈sc.names,y.2 = .free->∃c,X.env.cells.lookup y.1=some c:=λy hy e=>I.ok.has y.1 (K.frees y hy e)
 refine wpAny_comprehension_free rfl hs (kG hcl) K.kind K.locs (thn (hi pins s σ H _ I h) λv s1 h1=>thn h1 λitv s2 h2 =>?_)
 obtain ⟨it,fp,tn,J,H2,e,I2,T,st2,f2,W,⟨m0,w0⟩,turn⟩:=h2
 subst e
 refine xQ (wpAny_newFunctionEnv K.nocell (by intro y hy;simp at hy) (λh1 ns1 sb1 =>?_) K.kind)
 dsimp only at ns1 sb1 ⊢
 generalize hP:s2.heap.push { cls :=.type "list",dict:=none,data :=.seq ([]:List ug).toArray }=G at ns1 sb1 ⊢
 have sG:G.objs.size=s2.heap.objs.size+1:=by rw[<- hP,yu]
 have fl:∀b∈fp,b<s2.heap.objs.size:=λb hb=>by
  obtain ⟨o,e,_⟩:=T.obj _ _ st2 b hb
  exact uO e
 have hC:s2.heap.objs.size<=G.objs.size:=by rw[sG];exact Nat.le_succ _
 have aC:s2.heap.objs.size≠G.objs.size:=by rw[sG];exact ve (x8 _)
 have old:∀b o,s2.heap.get? b=some o->h1.get? b=some o:=λb o e=>by
  have lt:=uO e
  have ne:b≠G.objs.size:=ve (uG lt hC)
  rw[sb1.2 b ne]
  exact uq _ (hP ▸ uq _ e)
 have accO:h1.PlainList s2.heap.objs.size #[]:=⟨_,by
  rw[sb1.2 _ aC]
  exact uq _ (hP ▸ uU _ rfl)⟩
 have IB:=pJ (t:=s2.toks+([]:List (Str×ug)).length) I2 K hC f2 fl old ns1
 have up:∀y c,(aG X.env sc.names []).lookup y=some c->X.env.cells.lookup y=some c:=λy c e=>by
  rcases cq sc.names [] hcl e with q | q
  ·cases q
  ·exact q
 have accNotCell:∀y c,(aG X.env sc.names []).lookup y=some c->c≠s2.heap.objs.size:=λy c e z=>by
  obtain ⟨v,q⟩:=I2.cell y c (up y c e)
  exact absurd q.lt (by rw[z];exact wb _)
 have accFs:s2.heap.objs.size∉frs X.stack:=λz=>by
  rcases vn.mp (I2.i6 _ z) with q | q
  ·exact absurd I2.lt (by rw[<- q];exact wb _)
  ·exact I2.rf (ur _) q
 have accFp:s2.heap.objs.size∉fp:=λz=>absurd (fl _ z) (wb _)
 have stat:∀{H':Hp} {ob:Obj},(∀b∈fp,H' b=none)->∀b∈fp,ja (blk X sc (aG X.env sc.names []) G.objs.size N' s2 H2 fp) [(s2.heap.objs.size,ob)] H' b:=λ{H' ob} hn b hb=>by
  refine ⟨hn b hb,ve (uG (fl b hb) hC),IB.ok.exfs b hb,.inl hb,λy c e=>(f2 b hb).2.2.2.2.1 y c (up y c e),λp hp z =>?_⟩
  have ep:p=(s2.heap.objs.size,ob):=by simpa [blk] using hp
  subst ep
  exact accFp (by rw[show s2.heap.objs.size=b from z];exact hb)
 have accPin:∀{pl:List (Addr×Obj)} {σ':St} {H':Hp} {s':uj} {its:Array ug} {n:Nat},Inv (blk X sc (aG X.env sc.names []) G.objs.size N' s2 H2 fp) pl σ' H' s'->s'.heap.get? s2.heap.objs.size=some { cls :=.type "list",data :=.seq its n } →
   H' s2.heap.objs.size=none->Inv (blk X sc (aG X.env sc.names []) G.objs.size N' s2 H2 fp) [(s2.heap.objs.size,{ cls :=.type "list",data :=.seq its n })] σ' H' s':=λ{pl σ' H' s' its n} J' e nn=>J'.eL λp hp=>by
  have ep:p=(s2.heap.objs.size,({ cls :=.type "list",data :=.seq its n }:Obj)):=by simpa [blk] using hp
  subst ep
  exact ⟨e,nn,aC,accFs,λv z=>nomatch z⟩
 have loop:zJ (vk X.prog X.w) X.A (.compLoop (.ListComp elt [⟨target,iter,ifs,0⟩] sc pos) 0 (.ref it) (.ref s2.heap.objs.size) (compEnvC sc (aG X.env sc.names []) G.objs.size X.env))
   (compPost (vk X.prog X.w) X.A X.xe use Q2 (.ref s2.heap.objs.size) G.objs.size) { s2 with heap:=h1,toks:=s2.toks+([]:List (Str×ug)).length }:=by
  refine kI (λn s'=>∃i ys its nn σ' H',Inv (blk X sc (aG X.env sc.names []) G.objs.size N' s2 H2 fp) [(s2.heap.objs.size,{ cls :=.type "list",data :=.seq its nn })] σ' H' s'/\Vals ys its.toList/\tn i s'.heap/\(∀b∈fp,H' b=none)/\W i n σ' ys H')
   (λn s3 h3 =>?_) m0 ?_
  ·obtain ⟨i,ys,its,nn,σ3,H3,I3,r3,st3,fr3,w3⟩:=h3
   obtain ⟨e3,a3,_,_,_⟩:=I3.pin (s2.heap.objs.size,{ cls :=.type "list",data :=.seq its nn }) (by simp[blk])
   rcases turn i n σ3 ys H3 w3 with ⟨stop,zl,q3⟩ | ⟨go,step⟩
   ·refine thn (T.done (blk X sc (aG X.env sc.names []) G.objs.size N' s2 H2 fp) rfl rfl rfl hcalm i _ s3 σ3 H3 _ I3 (stat fr3) st3 stop) λr s4 ⟨hr,I4⟩ =>?_
    subst hr
    obtain ⟨e4,a4,_,_,_⟩:=I4.pin (s2.heap.objs.size,{ cls :=.type "list",data :=.seq its nn }) (by simp[blk])
    obtain ⟨m4,n4,_⟩:=I4.loc
    obtain ⟨oC,es4,ep4,c4,d4,r4⟩:=id n4
    have ltA:∀b o,s2.heap.get? b=some o->b≠s2.heap.objs.size:=λb o e=>ve (uO e)
    have B:=I4.base
    have hok:HOk X.prog X.w (upd H3 s2.heap.objs.size (.lst ys)) s4.heap:=λb o e=>by
     by_cases hb:b=s2.heap.objs.size
     ·subst hb
      rw[ag] at e
      cases e
      exact ⟨zl,its.toList,nn,r3,e4⟩
     ·rw[ak hb] at e
      refine (I4.hok b o e).stay (λc u hc q=>q) (λc q =>?_) (λc xs q =>?_)
      ·rw[ak (aq q a4)];exact q
      ·rw[ak (aq q a4)];exact q
    have I5:Inv X pins σ (upd H3 s2.heap.objs.size (.lst ys)) s4:=by
     refine I2.qG (ch:=fp) I4.os ⟨λb o e n hb hx=>B.keep b o e n hb hx,λb o e n hb hx=>B.slot b o e n hb hx,λb o e n hx =>?_,λb o e hx=>B.there b o e hx,λb xs e =>?_,λb o u e =>?_,λb ps e =>?_⟩ hok I4.bare (λb hb =>?_)
     ·rw[ak (ltA b o e)];exact B.free b o e n hx
     ·have q:=B.tups b xs e
      rw[ak (aq q a4)];exact q
     ·have q:=B.frzs b o u e
      rw[ak (aq q a4)];exact q
     ·obtain ⟨more,q⟩:=B.tbls b ps e
      exact ⟨more,by rw[ak (aq q a4)];exact q⟩
     ·obtain ⟨g0,g1,g2,g3,g4,g5⟩:=f2 b hb
      exact ⟨g3,g1,g4,g5⟩
    have cL:G.objs.size≠X.env.locals:=ye (uG I2.lt hC)
    have I6:Inv X (pins++[(G.objs.size,oC)]) σ (upd H3 s2.heap.objs.size (.lst ys)) s4:=I5.eL λp hp=>by
     rcases uC.mp hp with q | q
     ·exact I5.pin p (u5 _ q)
     ·have ep:p=(G.objs.size,oC):=by simpa using q
      subst ep
      exact ⟨c4,by rw[ak (w6 aC)];exact I4.free,cL,I2.rf hC,λv z=>by rw[d4] at z;cases z⟩
    refine fin s4 H3 s2.heap.objs.size G.objs.size ys oC I6 ⟨m4,n4⟩ (vc I2.sz hC) (λy c e z =>?_) (λp hp z =>?_) (q3 _ a4)
    ·obtain ⟨v,q⟩:=I2.cell y c e
     exact absurd (uG q.lt hC) (by rw[z];exact wb _)
    ·exact absurd (uG (uO (I2.pin p hp).1) hC) (by rw[z];exact wb _)
   ·refine thn (T.item (blk X sc (aG X.env sc.names []) G.objs.size N' s2 H2 fp) rfl rfl rfl hcalm i _ s3 σ3 H3 _ I3 (stat fr3) st3 go) λr s4 ⟨u,hr,h4⟩ =>?_
    subst hr
    refine thn h4 λ_ s5 ⟨x,H5,I5,r5,y5,st5,fr5⟩ =>?_
    have I5':=I5.pinned (stat fr5) (T.obj _ _ st5)
    refine thn (hg _ _ _ _ _ _ s5 σ3 H5 x u _ I5' r5 (step x H5 y5)) λ_ s6 ⟨σ6,H6,I6,q6⟩ =>?_
    refine thn (hc _ _ _ _ _ _ s6 σ6 H6 _ I6 q6) λok s7 ⟨H7,I7,q7⟩ =>?_
    have back:∀{σ7:St} {H7:Hp} {s7:uj},Inv (blk X sc (aG X.env sc.names []) G.objs.size N' s2 H2 fp) ([(s2.heap.objs.size,{ cls :=.type "list",data :=.seq its nn })]++eA fp s5.heap) σ7 H7 s7->tn (i+1) s7.heap/\∀b∈fp,H7 b=none:=λJ7 =>
     ⟨T.keep _ _ _ st5 λb hb o e=>(J7.pin (b,o) (u5 _ (u5 _ (cu hb e)))).1,λb hb=>by
      obtain ⟨o,e,d⟩:=T.obj _ _ st5 b hb
      exact (J7.pin (b,o) (u5 _ (u5 _ (cu hb e)))).2.1⟩
    cases ok with
    | false =>
     rw[if_neg (by decide)] at q7
     obtain ⟨m',lm,w7⟩:=q7
     show ∃m,m<n/\_
     exact ⟨m',lm,i+1,ys,its,nn,σ6,H7,I7.cO,r3,(back I7).1,(back I7).2,w7⟩
    | true =>
     rw[if_pos rfl] at q7
     refine thn (he _ _ _ _ _ _ s7 σ6 H7 _ I7 q7) λz s8 ⟨y,H8,I8,r8,lz,m',lm,w8⟩ =>?_
     obtain ⟨e8,a8,_,_,_⟩:=I8.pin (s2.heap.objs.size,{ cls :=.type "list",data :=.seq its nn }) (by simp[blk])
     have sz:its.size<=uL:=by
      have l:ys.length=its.size:=r3.length.trans uo
      rw[<- l]
      exact xq lz
     refine wpAny_list_append_plain ⟨nn,e8⟩ (λh' pl' sb' =>?_) sz
     obtain ⟨n9,e9⟩:=pl'
     have I8p:Inv (blk X sc (aG X.env sc.names []) G.objs.size N' s2 H2 fp) (eA fp s5.heap) σ6 H8 s8:=I8.eL λp hp=>I8.pin p (u5 _ (u5 _ hp))
     have I9:=I8p.turned (it:=s2.heap.objs.size) (h':=h') (t':=s8.toks) (λb o ne e=>by rw[sb'.2 b ne];exact e) a8 aC (.inr (ur _)) (λy c e=>accNotCell y c e) (λp hp z=>by
      have hp':p∈eA fp s5.heap:=by simpa [blk] using hp
      exact accFp (by rw[<- z];exact (iw hp').1))
     have b9:tn (i+1) h'/\∀b∈fp,H8 b=none :=
      ⟨T.keep _ _ _ st5 λb hb o e=>(I9.pin (b,o) (u5 _ (cu hb e))).1,(back I8).2⟩
     exact ⟨m',lm,i+1,ys++[y],its.push z,n9,σ6,H8,accPin I9 e9 a8,by rw[wd];exact r3.append (.cons r8 .nil),b9.1,b9.2,w8⟩
  ·obtain ⟨n0,e0⟩:=accO
   exact ⟨0,[], #[],n0,_,H2,accPin IB e0 (I2.hok.fresh (ur _)),.nil,T.keep _ _ _ st2 λb hb o e=>old b o e,λb hb=>(f2 b hb).1,w0⟩
 exact codeAny_compStart_list loop (T.self _ 0 _ _ _ (T.keep _ _ _ st2 λb hb o e=>old b o e) loop)
theorem cY {elt target iter:Expr}{ifs:List Expr}{sc:Scope}{pos:Pos}{wi:TI}{g:TG}{tc:TT}{te:TE}(N':List Str)(ix:List (Option Nat))
  (hcalm:X.calm=true) (hi:PI X target iter wi) (hk:jN X.env.scope.names X.N sc N' ix=true)
  (hg:∀cl C s H fp,PG (blk X sc cl C N' s H fp) target g) (hc:∀cl C s H fp,PF (blk X sc cl C N' s H fp) ifs tc) (he:∀cl C s H fp,PE (blk X sc cl C N' s H fp) elt te)
  (hs:∀x,foldedSetIterable iter X.env x=pure x:=by intro _;rfl):PE X (.ListComp elt [⟨target,iter,ifs,0⟩] sc pos) (n6 ix wi g tc te):=by
 intro pins s σ H Q I h
 rw[eval_ListComp]
 refine iF hcalm hi hk hg hc he hs (λs4 H3 acc C ys oC I4 ns hC hc hp q =>?_) I h
 obtain ⟨m,ns⟩:=ns
 refine ⟨m,ns,λh' sb=>⟨.ref acc,_,?_,rfl,q⟩⟩
 obtain ⟨_,n0,n1,n2,_⟩:=I4.pin (C,oC) (by simp)
 exact (I4.cO).turned (it:=C) (h':=h') (t':=s4.toks) (λb o ne e=>by rw[sb.2 b ne];exact e) n0 n1 (.inr hC) hc hp
theorem bV {elt target iter:Expr}{ifs:List Expr}{sc:Scope}{pos pos' spos:Pos}{wi:TI}{g:TG}{tc:TT}{te:TE}{i:Nat}{x:Str}(N':List Str)(ix:List (Option Nat))
    (hcalm:X.calm=true) (hN:X.N.Nodup) (hx:X.N[i]? = some x) (hl:X.env.scope.names.lookup x=some .local)
    (hi:PI X target iter wi) (hk:jN X.env.scope.names X.N sc N' ix=true)
    (hg:∀cl C s H fp,PG (blk X sc cl C N' s H fp) target g) (hc:∀cl C s H fp,PF (blk X sc cl C N' s H fp) ifs tc) (he:∀cl C s H fp,PE (blk X sc cl C N' s H fp) elt te)
    (hsw:swapsWith (.ListComp elt [⟨target,iter,ifs,0⟩] sc pos) (some (.Name x pos')) spos.line X.env=pure true:=by rfl)
    (hs:∀x,foldedSetIterable iter X.env x=pure x:=by intro _;rfl):PS X (.Assign [.Name x pos'] (.ListComp elt [⟨target,iter,ifs,0⟩] sc pos) spos) (rC (n6 ix wi g tc te) (eO i)):=by
  intro pins s σ H D I h
  rw[exec_Assign_Name_used _ _ _ _ hsw]
  refine uf (AL (uf ?_))
  show vm _ X.A (do let _ ← comprehension (.ListComp elt [⟨target,iter,ifs,0⟩] sc pos) sc X.env _ (newList []) false (eval iter X.env) (some (assign (.Name x pos') X.env))) _ _ s
  refine uf (wG (iF (Q:=λv H1=>D.nx (σ.set i (some v)) H1) (Q2:=λ_ s'=>SP X pins D .next s') hcalm hi hk hg hc he hs (λs4 H3 acc C ys oC I4 ns hC hc hp q =>?_) I h) (λ_ s' q=>uD (uD q)) λ_ _ e=>e)
  obtain ⟨m,ns⟩:=ns
  obtain ⟨e0,n0,n1,n2,_⟩:=I4.pin (C,oC) (by simp)
  show vm _ X.A (assign (.Name x pos') X.env (.ref acc)) _ _ s4
  refine thn ((aH (i:=i) hN hx (.inl hl) (.inr hl)) (pins++[(C,oC)]) s4 σ _ (.ref acc) (.ref acc) _ I4 rfl q) λ_ s5 ⟨σ5,H5,I5,q5⟩ =>?_
  obtain ⟨e5,k0,k1,k2,_⟩:=I5.pin (C,oC) (by simp)
  obtain ⟨o',es',ep',c',r'⟩:=ns
  have e':=e0.symm.trans c'
  cases e'
  refine ⟨m,⟨_,es',ep',e5,r'⟩,λh' sb=>⟨σ5,H5,?_,q5⟩⟩
  exact (I5.cO).turned (it:=C) (h':=h') (t':=s5.toks) (λb o ne e=>by rw[sb.2 b ne];exact e) k0 k1 (.inr hC) hc hp
end
open PySem PySem.Spec PyProof.Rows
section
variable  {X:Cx}
theorem jg {j:Int}(h0:0<j)(h:j<2 ^ 200):j.natAbs.log2<9000:=by
 have h1:j.natAbs<2 ^ 200:=by lia
 have h2:j.natAbs.log2<200:=(Bp (by lia)).mpr h1
 lia
def tN (_ j:Int):Prop:=0<j/\j<2 ^ 200
theorem jh:bO X (.builtin "divmod") (λxs H Q=>∃i j,xs=[.int i,.int j]/\tN i j/\∀p,H p=none->Q (.ref p) (upd H p (.tup [.int (i/j),.int (i%j)]))):=by
 intro pins s σ H xs us Q I r h
 obtain ⟨i,j,rfl,⟨h1,h2⟩,q⟩:=h
 obtain ⟨u,w',rfl,⟨t,rfl⟩,⟨t',rfl⟩⟩:=vals2 r
 refine divmod_int (by lia) ?_ (.inl (zh (jg h1 h2)))
 rw[xT i (by lia),yO i (by lia)]
 refine ⟨.ref s.heap.objs.size,_,?_,rfl,q _ I.fresh⟩
 refine I.laid (λb o e=>uq _ e) (ur _) ⟨by simp only[vh,yI];rw[yt];decide,[.int (i/j) s.toks,.int (i%j) (s.toks+1)],.cons ⟨_,rfl⟩ (.cons ⟨_,rfl⟩ .nil),?_⟩
 exact ⟨_,uU s.heap rfl,⟨rfl,rfl⟩,0,rfl⟩
def tO (K:uh):R2:=λx y H Q=>∃l b xs zs,x = .ref l/\y = .ref b/\SqL K H l xs/\SqL K H b zs/\xs.length+zs.length<=uL/\∀p,H p=none->Q (.ref p) (upd H p (.lst (xs++zs)))
theorem pM:OpR X (binaryOp .Add) (tO X.K):=by
 intro pins s σ H x y v u Q I rx ry h
 obtain ⟨l,b,xs,zs,rfl,rfl,hH,hB,hz,q⟩:=h
 cases rx
 cases ry
 obtain ⟨its,r,e,z⟩:=I.list hH
 obtain ⟨its2,r2,e2,z2⟩:=I.list hB
 obtain ⟨⟨c1,d1,da1,sl1⟩,n,e,k1,k2,k3⟩:=e
 obtain ⟨⟨c2,d2,da2,sl2⟩,n2,e2,g1,g2,g3⟩:=e2
 simp only at k1 k3 g1 g3
 subst k1 k3 g1 g3
 have l1:=r.length
 have l2:=r2.length
 have ea:its.toArray++its2.toArray=(its++its2).toArray:=by simp
 refine concat_meets ⟨_,e,rfl⟩ ⟨_,e2,rfl⟩ noFill_list_add seq_list_add PySem.F.slot_list_add PySem.F.entry_list_add
  (PySem.F.args_list_add_2 _ _) (list_addW l b its.toArray its2.toArray n n2 d1 d2 sl1 sl2 (by rw[uu,uu];omega)) ⟨e,e2,?_⟩
 rw[ea]
 exact ⟨.ref _,_,I.lnew (t':=s.toks) (r.append r2) (by rw[uv];omega),rfl,q _ I.fresh⟩
theorem fQ:bO X (.builtin "isinstance") (λxs H Q=>∃x T t b,xs=[x,.ty T]/\fv X.K H x t/\PySem.W.kitOne X.K t (.type T)=some b/\Q (.bl b) H):=by
 intro pins s σ H xs us Q I r h
 obtain ⟨x,T,t,b,rfl,ty,e,q⟩:=h
 obtain ⟨u,w',rfl,ru,rw'⟩:=vals2 r
 cases (show w'=xS T from rw')
 exact mC I ru ty e λtk=>⟨.bl b,H,I.tok tk,rfl,q⟩
end
def n8 (k:Nat)(tc:TT)(te:TE)(τ:St)(Pv:Nat->List V->Hp->Prop)(i:Nat)(x:V)(ys:List V)(H:Hp):Prop :=
 ∀(R1:V->Hp->Prop) (R0:Hp->Prop),(∀y H4,Pv (i+1) (ys++[y]) H4->R1 y H4)->(∀H3,Pv (i+1) ys H3->R0 H3)->tc (τ.set k (some x)) H λb H3=>if b=true then te (τ.set k (some x)) H3 R1 else R0 H3
theorem eD {K:uh}{a:Addr}{xs:List V}{k:Nat}{tc:TT}{te:TE}{τ:St}{H:Hp}{Q:VK}(Pv:Nat->List V->Hp->Prop)(h0:Pv 0 [] H)(hz:xs.length<=uL)
  (hl:∀i ys H,i<=xs.length->Pv i ys H->SqL K H a xs) (hs:∀i x ys H,xs[i]? = some x->ys.length<=i->Pv i ys H->n8 k tc te τ Pv i x ys H)
  (hd:∀ys H,ys.length<=xs.length->Pv xs.length ys H->∀l,H l=none->Q (.ref l) (upd H l (.lst ys))) :
  iE (Itl K a) (eO k) tc te τ Q H:=by
 refine ⟨λi m σ ys H=>m=xs.length-i/\i<=xs.length/\(∀x,σ.set k (some x)=τ.set k (some x))/\ys.length<=i/\Pv i ys H,⟨xs.length,by simp,vv _,λ_=>rfl,ur _,h0⟩,?_⟩
 rintro i m σ ys H ⟨rfl,hi,hτ,hy,p⟩
 have q:=hl i ys H hi p
 by_cases hlt:i<xs.length
 ·refine .inr ⟨⟨xs,xs[i],q,by simp[hlt]⟩,λx H' y =>?_⟩
  obtain ⟨e,y⟩:=y
  subst e
  show tc (σ.set k (some x)) _ _
  rw[hτ x]
  have hσ:∀z,(τ.set k (some x)).set k (some z)=τ.set k (some z):=λz=>by rw[yf]
  refine hs i x ys _ (y xs q) hy p _ _ (λy4 H4 p4=>⟨by lia,xs.length-(i+1),by lia,rfl,hlt,hσ,by rw[uv,vF];lia,p4⟩) λH3 p3=>⟨xs.length-(i+1),by lia,rfl,hlt,hσ,by lia,p3⟩
 ·have e:i=xs.length:=by lia
  subst e
  exact .inl ⟨⟨xs,q,ur _⟩,by lia,hd ys H hy p⟩
theorem dI {K:uh}{a:Addr}{xs:List V}{k:Nat}{tc:TT}{te:TE}{τ:St}{H:Hp}{Q:VK}(Pv:Nat->List V->Hp->Prop)(h0:Pv 0 [] H)(hz:xs.length<=uL)
  (hl:∀i ys H,i<=xs.length->Pv i ys H->SqT K H a xs) (hs:∀i x ys H,xs[i]? = some x->ys.length<=i->Pv i ys H->n8 k tc te τ Pv i x ys H)
  (hd:∀ys H,ys.length<=xs.length->Pv xs.length ys H->∀l,H l=none->Q (.ref l) (upd H l (.lst ys))) :
  iE (Itt K a) (eO k) tc te τ Q H:=by
 refine ⟨λi m σ ys H=>m=xs.length-i/\i<=xs.length/\(∀x,σ.set k (some x)=τ.set k (some x))/\ys.length<=i/\Pv i ys H,⟨xs.length,by simp,vv _,λ_=>rfl,ur _,h0⟩,?_⟩
 rintro i m σ ys H ⟨rfl,hi,hτ,hy,p⟩
 have q:=hl i ys H hi p
 by_cases hlt:i<xs.length
 ·refine .inr ⟨⟨xs,xs[i],q,by simp[hlt]⟩,λx H' y =>?_⟩
  obtain ⟨e,y⟩:=y
  subst e
  show tc (σ.set k (some x)) _ _
  rw[hτ x]
  have hσ:∀z,(τ.set k (some x)).set k (some z)=τ.set k (some z):=λz=>by rw[yf]
  refine hs i x ys _ (y xs q) hy p _ _ (λy4 H4 p4=>⟨by lia,xs.length-(i+1),by lia,rfl,hlt,hσ,by rw[uv,vF];lia,p4⟩) λH3 p3=>⟨xs.length-(i+1),by lia,rfl,hlt,hσ,by lia,p3⟩
 ·have e:i=xs.length:=by lia
  subst e
  exact .inl ⟨⟨xs,q,ur _⟩,by lia,hd ys H hy p⟩
theorem dv {lo:Int}{n:Nat}{k:Nat}{tc:TT}{te:TE}{τ:St}{H:Hp}{Q:VK}(Pv:Nat->List V->Hp->Prop)(h0:Pv 0 [] H)(hz:n<=uL)
  (hs:∀i ys H,i<n->ys.length<=i->Pv i ys H->n8 k tc te τ Pv i (.int (lo+i)) ys H)
  (hd:∀ys H,ys.length<=n->Pv n ys H->∀l,H l=none->Q (.ref l) (upd H l (.lst ys))) :
  iE (Itr lo n) (eO k) tc te τ Q H:=by
 refine ⟨λi m σ ys H=>m=n-i/\i<=n/\(∀x,σ.set k (some x)=τ.set k (some x))/\ys.length<=i/\Pv i ys H,⟨n,by simp,vv _,λ_=>rfl,ur _,h0⟩,?_⟩
 rintro i m σ ys H ⟨rfl,hi,hτ,hy,p⟩
 by_cases hlt:i<n
 ·refine .inr ⟨hlt,λx H' y =>?_⟩
  obtain ⟨e,y⟩:=y
  subst e y
  show tc (σ.set k (some (.int (lo+i)))) _ _
  rw[hτ]
  have hσ:∀z,(τ.set k (some (.int (lo+i)))).set k (some z)=τ.set k (some z):=λz=>by rw[yf]
  refine hs i ys _ hlt hy p _ _ (λy4 H4 p4=>⟨by lia,n-(i+1),by lia,rfl,hlt,hσ,by rw[uv,vF];lia,p4⟩) λH3 p3=>⟨n-(i+1),by lia,rfl,hlt,hσ,by lia,p3⟩
 ·have e:i=n:=by lia
  subst e
  exact .inl ⟨ur _,by lia,hd ys H hy p⟩
structure Cal (P:uM)(w:vt)(K:uh)(mg:Str->Option ug)(base:Heap)(k:Nat)(x:Str)(ps:List Str)(sp:Sp):Prop where
 ex:∃f fd,bF P w K mg base CX0 k f fd ps sp/\mg x=some (.ref f)/\PySem.W.keepIn K (.ref f)=true/\Binds K fd ps []
theorem aB {X:Cx}{j k:Nat}{x:Str}{ps:List Str}{sp:Sp}{e:Expr}{es:List Expr}{t:TA}{p pos:Pos}(C:Cal X.prog X.w X.K X.mg X.base k x ps sp)(hr:bT j X.A)(hj:k<=j)(hg:Gl X x)(ha:PA X (e :: es) t)
  (hdb:(x == ("__debug__" : Str))=false:=by decide) (he:vG (e :: es) X.env=(false,eval e X.env) :: vG es X.env:=by rfl) (hpl:(yX pos (vG es X.env)).any (·.1)=false:=by rfl) :
  PE X (.Call (.Name x p) (e :: es) [] pos) (nX sp [] E0 t):=by
 obtain ⟨f,fd,F,m,kp,b⟩:=C.ex
 exact lO F (hr.mono hj) hg m kp b .nil tL ha hdb he hpl
theorem af {H:Hp}{p:Addr}(h:H p=none)(o:HO):aD H (upd H p o):=λb u q=>by rw[ak (aq q h)];exact q
theorem small {n:Nat}(h:n<=1000):n<=uL:=xq (aW h)
open PySem PySem.Spec PyProof.Rows
section
variable  {X:Cx}
def pN:V->List V->Hp->VK->Prop:=λx vs H Q=>∃(l:Addr) (xs:List V) (i:Int) (y:V),x = .ref l/\vs=[.int i,y]/\H l=some (.lst xs)/\0<=i/\i<=xs.length/\xs.length<uL/\Q .non (upd H l (.lst (xs.take i.toNat++y :: xs.drop i.toNat)))
theorem iH:MtM X "list.insert" pN:=by
 intro pins s σ H x vs v us Q I rx rv h
 obtain ⟨l,xs,i,y,rfl,rfl,hH,h0,h1,hz,q⟩:=h
 cases rx
 obtain ⟨ui,uy,rfl,⟨t,rfl⟩,ry⟩:=vals2 rv
 obtain ⟨z,its,n,r,hl,e⟩:=I.pG hH
 have zl:=eB
 have fits:¬ (!Builtin.List.listFitsIndex i)=true:=by
  have:Builtin.List.listFitsIndex i=true:=by
   unfold Builtin.List.listFitsIndex
   simp only[vZ,decide_eq_true_eq]
   lia
  rw[this];simp
 refine zx F.slot_list_insert ⟨_,e,rfl⟩ F.entry_list_insert (F.args_list_insert_3 _ _ _) (zK l its.toArray n i t uy fits (by rw[uu];lia)) ⟨e,?_⟩
 refine ⟨.non,_,I.pF (its':=its.take i.toNat++uy :: its.drop i.toNat) hH e ?_ ((r.take _).append (.cons ry (r.drop _))) ?_,rfl,q⟩
 ·have ek:min i.toNat its.toArray.size=i.toNat:=by rw[uu];lia
  dsimp only
  rw[if_neg (by lia),ek]
  apply x9.mp
  rw[vi,wd,v7,v7,vH,vH]
  simp
  rw[uI (by rw[wI];lia)]
 ·rw[uv,vh,vx,wI]
  lia
theorem iI {α β:Type}{F:α -> β -> Prop}:∀{l:List α} {m:List β} {i:Nat} {x:α} {y:β},Paired F l m->l[i]? = some x->m[i]? = some y->F x y
 | _,_,0,_,_,.cons h _,e1,e2=>by simp at e1 e2;subst e1 e2;exact h
 | _,_,i+1,_,_,.cons _ t,e1,e2=>iI (i:=i) t (by simpa using e1) (by simpa using e2)
 | _,_,_,_,_,.nil,e1,_=>by simp at e1
theorem all_true (n:Nat):((vC n).all λ_=>true)=true:=by simp
end
open PySem PySem.Spec PyProof.Rows
def oa (K:uh)(k l:Nat):TG:=sU K 2 (nI (eO k) (nI (eO l) sT))
def qJ (k l:Nat)(tc:TT)(te:TE)(τ:St)(Pv:Nat->List V->Hp->Prop)(i:Nat)(a b:V)(ys:List V)(H:Hp):Prop :=
 ∀(R1:V->Hp->Prop) (R0:Hp->Prop),(∀y H4,Pv (i+1) (ys++[y]) H4->R1 y H4)->(∀H3,Pv (i+1) ys H3->R0 H3)->tc ((τ.set k (some a)).set l (some b)) H λc H3=>if c=true then te ((τ.set k (some a)).set l (some b)) H3 R1 else R0 H3
theorem gv {K:uh}{p:Addr}{ts:List (Addr×V×V)}{k l:Nat}{tc:TT}{te:TE}{τ:St}{H:Hp}{Q:VK}(Pv:Nat->List V->Hp->Prop)(hkl:k≠l)(h0:Pv 0 [] H)(hz:ts.length<=uL)
  (hl:∀i ys H,i<=ts.length->Pv i ys H->SqL K H p (ts.map λt =>.ref t.1)/\∀t∈ts,SqT K H t.1 [t.2.1,t.2.2])
  (hs:∀i t ys H,ts[i]? = some t->ys.length<=i->Pv i ys H->qJ k l tc te τ Pv i t.2.1 t.2.2 ys H)
  (hd:∀ys H,ys.length<=ts.length->Pv ts.length ys H->∀r,H r=none->Q (.ref r) (upd H r (.lst ys))):iE (Itl K p) (oa K k l) tc te τ Q H:=by
 refine ⟨λi m σ ys H=>m=ts.length-i/\i<=ts.length/\(∀a b,(σ.set k (some a)).set l (some b)=(τ.set k (some a)).set l (some b))/\ys.length<=i/\Pv i ys H,⟨ts.length,by simp,vv _,λ_ _=>rfl,ur _,h0⟩,?_⟩
 rintro i m σ ys H ⟨rfl,hi,hτ,hy,pv⟩
 obtain ⟨q,qt⟩:=hl i ys H hi pv
 have ln:(ts.map λt:Addr×V×V=>V.ref t.1).length=ts.length:=ue _
 by_cases hlt:i<ts.length
 ·have et:ts[i]? = some ts[i]:=ux hlt
  have em:(ts.map λt:Addr×V×V=>V.ref t.1)[i]? = some (.ref ts[i].1):=by rw[uF,et];rfl
  refine .inr ⟨⟨_,_,q,em⟩,λx H' y =>?_⟩
  obtain ⟨e,y⟩:=y
  subst e
  have ex:=y _ q
  rw[em] at ex
  cases ex
  have st:=qt ts[i] (yy hlt)
  refine ⟨ts[i].1,_,rfl,st,rfl,_,_,rfl,_,_,rfl,rfl,?_⟩
  rw[hτ]
  have hσ:∀a b,((((τ.set k (some ts[i].2.1)).set l (some ts[i].2.2)).set k (some a)).set l (some b))=(τ.set k (some a)).set l (some b):=λa b=>by
   rw[BS _ _ (w6 hkl),yf,yf]
  refine hs i ts[i] ys _ et hy pv _ _ (λy4 H4 p4=>⟨by lia,ts.length-(i+1),by lia,rfl,hlt,hσ,by rw[uv,vF];lia,p4⟩) λH3 p3=>⟨ts.length-(i+1),by lia,rfl,hlt,hσ,by lia,p3⟩
 ·have e:i=ts.length:=by lia
  subst e
  exact .inl ⟨⟨_,q,by rw[ln];exact ur _⟩,by lia,hd ys H hy pv⟩
open PySem PySem.Spec PyProof.Rows
section
variable  {X:Cx}{K:uh}
theorem og (h:X.K=K:=by rfl):IxR X (tI K):=by subst h;exact bD
theorem fZ (h:X.K=K:=by rfl):IxR X (tJ K):=by subst h;exact aT
theorem kJ (h:X.K=K:=by rfl):OpR X (wq .In) (rIn K false):=by subst h;exact mE
theorem mH (h:X.K=K:=by rfl):OpR X (wq .NotIn) (rIn K true):=by subst h;exact jf
theorem mI (h:X.K=K:=by rfl):bO X (.builtin "len") (λxs H Q=>∃p ys,xs=[.ref p]/\(SqL K H p ys\/SqT K H p ys)/\Q (.int ys.length) H):=by subst h;exact ck
end
end L2
namespace Srt
open PySem PyProof.Rows
def gal:Bool->uK->Array uK->Nat->Nat->Nat->StateT vd Sem (Option Nat):=sortPriv% PySem.Builtin.gallop
def mLo:Array uK->Array uK->StateT vd Sem (Array uK):=sortPriv% PySem.Builtin.mergeLo
def mHi:Array uK->Array uK->StateT vd Sem (Array uK):=sortPriv% PySem.Builtin.mergeHi
def mAt:Nat->StateT vd Sem Bool:=sortPriv% PySem.Builtin.mergeAt
def qK:StateT vd Sem Unit:=sortPriv% PySem.Builtin.sortRuns
def rS:Nat->Nat->StateT vd Sem (Option Nat):=sortPriv% PySem.Builtin.countRun
def oh:Nat->Nat->Nat->StateT vd Sem Bool:=sortPriv% PySem.Builtin.binarySort
theorem rT (lf:Bool)(ky:uK)(ar:Array uK)(bs n ht:Nat):gal lf ky ar bs n ht=(do
    let far (i:Nat):StateT vd Sem (Option Bool):=do
      let z ← elem' ar (bs+i)
      if lf then lt' z ky else return (← lt' ky z).map (!·)
    let mut la:=0;let mut of:=1
    let mut lo:=0;let mut hi:=0
    let some rt ← far ht | return none
    if rt then
      let mx:=n-ht
      for _ in [0:n] do
        if of≥mx then break
        let some mo ← far (ht+of)
          | return none
        if !mo then break
        la:=of;of:=2*of+1
      lo:=ht+la+1;hi:=ht+min of mx
    else
      let mx:=ht+1
      for _ in [0:n] do
        if of≥mx then break
        let some fd ← far (ht-of)
          | return none
        if fd then break
        la:=of;of:=2*of+1
      lo:=ht+1-min of mx;hi:=ht-la
    for _ in [0:n] do
      if lo≥hi then break
      let md:=lo+(hi-lo)/2
      let some mo ← far md | return none
      if mo then lo:=md+1 else hi:=md
    return some hi):=rfl
section
variable  {prog:uM}{w:vt}{A:vz}{E:ug->uj->Prop}{s:uj}
theorem oi {lf:Bool}{ky:uK}{ar:Array uK}{bs n ht:Nat}{st:vd}{Q:Option Nat->vd->Prop}(p:Nat->Bool)
    (hf:∀i,i<n->∀(Q:Option Bool->vd->Prop),Q (some (p i)) st->wpS (vk prog w) A E s (do let z ← elem' ar (bs+i);if lf then lt' z ky else return (← lt' ky z).map (!·)) Q st)
    (hp:∀i j,i<=j->j<n->p j=true->p i=true) (hh:ht<n)
    (h:∀k,k<=n->(∀i,i<k->p i=true)->(∀i,k<=i->i<n->p i=false)->Q (some k) st):wpS (vk prog w) A E s (gal lf ky ar bs n ht) Q st:=by
  rw[rT]
  dsimp only
  refine uE (hf ht hh _ ?_)
  dsimp only
  cases hr:p ht with
  | true =>
    rw[if_pos rfl]
    refine uE (wC (vN (I:=λx c st'=>st=st'/\∃la of,c=(none,la,of)/\la<of/\x+1<=of/\ht+la<n/\p (ht+la)=true)
      (Q:=λc st'=>st=st'/\∃la of,c=(none,la,of)/\la<of/\ht+la<n/\p (ht+la)=true/\(n-ht<=of\/(ht+of<n/\p (ht+of)=false))) ?step ?fin ⟨rfl,0,1,rfl,by lia,by lia,by lia,by simpa using hr⟩) ?post)
    case fin =>
      rintro c st' ⟨rfl,la,of,rfl,b1,b2,b3,b4⟩
      exact ⟨rfl,la,of,rfl,b1,b3,b4,.inl (by lia)⟩
    case step =>
      rintro x c st' _ hx ⟨rfl,la,of,rfl,b1,b2,b3,b4⟩
      dsimp only
      by_cases hge:of≥n-ht
      · rw[if_pos hge]
        exact uN ⟨rfl,la,of,rfl,b1,b3,b4,.inl hge⟩
      · rw[if_neg hge]
        refine uE (hf _ (by lia) _ ?_)
        dsimp only
        cases hm:p (ht+of) with
        | true =>
          simp only[v5,uQ,if_false]
          exact uN ⟨rfl,of,2*of+1,rfl,by lia,by lia,by lia,hm⟩
        | false =>
          simp only[Aj,if_true]
          exact uN ⟨rfl,la,of,rfl,b1,b3,b4,.inr ⟨by lia,hm⟩⟩
    case post =>
      rintro c st' ⟨rfl,la,of,rfl,b1,b3,b4,b5⟩
      have h1:(ht+la+1)<=(ht+min of (n-ht)):=by lia
      have h2:(ht+min of (n-ht))<=n:=by lia
      have h3:∀i,i<(ht+la+1)->p i=true:=λi hi=>hp i (ht+la) (by lia) b3 b4
      have h4:∀i,(ht+min of (n-ht))<=i->i<n->p i=false:=λi hi hn=>by
        rcases b5 with b5 | ⟨b5,b6⟩
        · lia
        · cases hpi:p i with
          | false=>rfl
          | true=>rw[hp (ht+of) i (by lia) hn hpi] at b6;cases b6
      dsimp only
      refine uE (wC (vN (I:=λx c st'=>st=st'/\∃lo hi,c=(none,lo,hi)/\lo<=hi/\hi<=n/\hi-lo<=n-x/\(∀i,i<lo->p i=true)/\(∀i,hi<=i->i<n->p i=false))
        (Q:=λc st'=>st=st'/\∃k,c=(none,k,k)/\k<=n/\(∀i,i<k->p i=true)/\(∀i,k<=i->i<n->p i=false)) ?step ?fin ⟨rfl,(ht+la+1),(ht+min of (n-ht)),rfl,h1,h2,by lia,h3,h4⟩) ?post)
      case fin =>
        rintro c st' ⟨rfl,lo,hi,rfl,a1,a2,a3,a4,a5⟩
        have e:lo=hi:=by lia
        subst e
        exact ⟨rfl,lo,rfl,a2,a4,a5⟩
      case post =>
        rintro c st' ⟨rfl,k,rfl,a2,a4,a5⟩
        exact uN (h k a2 a4 a5)
      case step =>
        rintro x c st' _ hx ⟨rfl,lo,hi,rfl,a1,a2,a3,a4,a5⟩
        dsimp only
        by_cases hge:lo≥hi
        · rw[if_pos hge]
          have e:lo=hi:=by lia
          subst e
          exact uN ⟨rfl,lo,rfl,a2,a4,a5⟩
        · rw[if_neg hge]
          refine uE (hf _ (by lia) _ ?_)
          dsimp only
          cases hm:p (lo+(hi-lo)/2) with
          | true =>
            rw[if_pos rfl]
            exact uN ⟨rfl,_,_,rfl,by lia,a2,by lia,λi hi'=>hp i _ (by lia) (by lia) hm,a5⟩
          | false =>
            rw[if_neg (by simp)]
            refine uN ⟨rfl,_,_,rfl,by lia,by lia,by lia,a4,λi hi' hn =>?_⟩
            cases hpi:p i with
            | false=>rfl
            | true=>rw[hp _ i hi' hn hpi] at hm;cases hm
  | false =>
    rw[if_neg (by simp)]
    refine uE (wC (vN (I:=λx c st'=>st=st'/\∃la of,c=(none,la,of)/\la<of/\x+1<=of/\la<=ht/\p (ht-la)=false)
      (Q:=λc st'=>st=st'/\∃la of,c=(none,la,of)/\la<of/\la<=ht/\p (ht-la)=false/\(ht+1<=of\/(of<=ht/\p (ht-of)=true))) ?step ?fin ⟨rfl,0,1,rfl,by lia,by lia,by lia,by simpa using hr⟩) ?post)
    case fin =>
      rintro c st' ⟨rfl,la,of,rfl,b1,b2,b3,b4⟩
      exact ⟨rfl,la,of,rfl,b1,b3,b4,.inl (by lia)⟩
    case step =>
      rintro x c st' _ hx ⟨rfl,la,of,rfl,b1,b2,b3,b4⟩
      dsimp only
      by_cases hge:of≥ht+1
      · rw[if_pos hge]
        exact uN ⟨rfl,la,of,rfl,b1,b3,b4,.inl hge⟩
      · rw[if_neg hge]
        refine uE (hf _ (by lia) _ ?_)
        dsimp only
        cases hm:p (ht-of) with
        | true =>
          rw[if_pos rfl]
          exact uN ⟨rfl,la,of,rfl,b1,b3,b4,.inr ⟨by lia,hm⟩⟩
        | false =>
          rw[if_neg (by simp)]
          exact uN ⟨rfl,of,2*of+1,rfl,by lia,by lia,by lia,hm⟩
    case post =>
      rintro c st' ⟨rfl,la,of,rfl,b1,b3,b4,b5⟩
      have h1:(ht+1-min of (ht+1))<=(ht-la):=by lia
      have h2:(ht-la)<=n:=by lia
      have h3:∀i,i<(ht+1-min of (ht+1))->p i=true:=λi hi=>by
        rcases b5 with b5 | ⟨b5,b6⟩
        · lia
        · exact hp i (ht-of) (by lia) (by lia) b6
      have h4:∀i,(ht-la)<=i->i<n->p i=false:=λi hi hn=>by
        cases hpi:p i with
        | false=>rfl
        | true=>rw[hp (ht-la) i hi hn hpi] at b4;cases b4
      dsimp only
      refine uE (wC (vN (I:=λx c st'=>st=st'/\∃lo hi,c=(none,lo,hi)/\lo<=hi/\hi<=n/\hi-lo<=n-x/\(∀i,i<lo->p i=true)/\(∀i,hi<=i->i<n->p i=false))
        (Q:=λc st'=>st=st'/\∃k,c=(none,k,k)/\k<=n/\(∀i,i<k->p i=true)/\(∀i,k<=i->i<n->p i=false)) ?step ?fin ⟨rfl,(ht+1-min of (ht+1)),(ht-la),rfl,h1,h2,by lia,h3,h4⟩) ?post)
      case fin =>
        rintro c st' ⟨rfl,lo,hi,rfl,a1,a2,a3,a4,a5⟩
        have e:lo=hi:=by lia
        subst e
        exact ⟨rfl,lo,rfl,a2,a4,a5⟩
      case post =>
        rintro c st' ⟨rfl,k,rfl,a2,a4,a5⟩
        exact uN (h k a2 a4 a5)
      case step =>
        rintro x c st' _ hx ⟨rfl,lo,hi,rfl,a1,a2,a3,a4,a5⟩
        dsimp only
        by_cases hge:lo≥hi
        · rw[if_pos hge]
          have e:lo=hi:=by lia
          subst e
          exact uN ⟨rfl,lo,rfl,a2,a4,a5⟩
        · rw[if_neg hge]
          refine uE (hf _ (by lia) _ ?_)
          dsimp only
          cases hm:p (lo+(hi-lo)/2) with
          | true =>
            rw[if_pos rfl]
            exact uN ⟨rfl,_,_,rfl,by lia,a2,by lia,λi hi'=>hp i _ (by lia) (by lia) hm,a5⟩
          | false =>
            rw[if_neg (by simp)]
            refine uN ⟨rfl,_,_,rfl,by lia,by lia,by lia,a4,λi hi' hn =>?_⟩
            cases hpi:p i with
            | false=>rfl
            | true=>rw[hp _ i hi' hn hpi] at hm;cases hm
end
open PySem PyProof.Rows
structure Cmp (prog:uM)(w:vt)(A:vz)(s:uj)(O:yW)(key:uK->O.α)(U:uK->Prop)(κ:SortKind):Prop where
 lt:∀(E:ug->uj->Prop) (st:vd) (x y:uK) (Q:Option Bool->vd->Prop),kindOf st=κ -> U x->U y->Q (some (O.blt (key x) (key y))) st->wpS (vk prog w) A E s (lt' x y) Q st
section
variable  {prog:uM}{w:vt}{A:vz}{E:ug->uj->Prop}{s:uj}{O:yW}{key:uK->O.α}{U:uK->Prop}{κ:SortKind}
theorem aL {ar:Array uK}{i:Nat}{z:uK}{st:vd}{Q:uK->vd->Prop}(h:ar[i]? = some z)(hq:Q z st):wpS (vk prog w) A E s (elem' ar i) Q st:=by
 rw[elem'_eq,h]
 exact uN hq
theorem rU (C:Cmp prog w A s O key U κ){ky:uK}{ar:Array uK}{bs n ht:Nat}{st:vd}{Q:Option Nat->vd->Prop}(g:Nat->uK)(hk:kindOf st=κ)(uk:U ky)
  (hg:∀i,i<n->ar[bs+i]? = some (g i)) (hu:∀i,i<n->U (g i)) (hs:∀i j,i<=j->j<n->O.kle (key (g i)) (key (g j))) (hh:ht<n)
  (h:∀k,k<=n->(∀i,i<k->O.kle (key (g i)) (key ky))->(∀i,k<=i->i<n->O.klt (key ky) (key (g i)))->Q (some k) st):wpS (vk prog w) A E s (gal false ky ar bs n ht) Q st:=by
 refine oi (λi => !O.blt (key ky) (key (g i))) (λi hi R hr =>?_) (λi j hij hj hp =>?_) hh (λk hk' h1 h2=>h k hk' (λi hi =>?_) λi hi hn =>?_)
 ·refine uE (aL (hg i hi) ?_)
  rw[if_neg (by simp)]
  exact uE (C.lt _ st ky (g i) _ hk uk (hu i hi) (uN hr))
 ·have a1:O.blt (key ky) (key (g j))=false:=by simpa using hp
  have a2:O.kle (key (g i)) (key ky):=vo (hs i j hij hj) a1
  have a3:O.blt (key ky) (key (g i))=false:=a2
  simp[a3]
 ·have a1:=h1 i hi
  exact (by simpa using a1:O.blt (key ky) (key (g i))=false)
 ·have a1:=h2 i hi hn
  exact (by simpa using a1:O.blt (key ky) (key (g i))=true)
theorem rV (C:Cmp prog w A s O key U κ){ky:uK}{ar:Array uK}{bs n ht:Nat}{st:vd}{Q:Option Nat->vd->Prop}(g:Nat->uK)(hk:kindOf st=κ)(uk:U ky)
  (hg:∀i,i<n->ar[bs+i]? = some (g i)) (hu:∀i,i<n->U (g i)) (hs:∀i j,i<=j->j<n->O.kle (key (g i)) (key (g j))) (hh:ht<n)
  (h:∀k,k<=n->(∀i,i<k->O.klt (key (g i)) (key ky))->(∀i,k<=i->i<n->O.kle (key ky) (key (g i)))->Q (some k) st):wpS (vk prog w) A E s (gal true ky ar bs n ht) Q st:=by
 refine oi (λi=>O.blt (key (g i)) (key ky)) (λi hi R hr =>?_) (λi j hij hj hp =>?_) hh (λk hk' h1 h2=>h k hk' (λi hi=>h1 i hi) λi hi hn=>h2 i hi hn)
 ·refine uE (aL (hg i hi) ?_)
  rw[if_pos rfl]
  exact C.lt _ st (g i) ky _ hk (hu i hi) uk hr
 ·exact KeyOrd.klt_of_kle_of_klt (hs i j hij hj) hp
end
open PySem PyProof.Rows
section
variable  {O:yW}(key:uK->O.α)
def Le (p q:uK):Prop:=O.kle (key p) (key q)
structure MW (a b o:Array uK)(x y:Nat):Prop where
 hx:x<=a.size
 hy:y<=b.size
 perm:(o.toList++(a.toList.drop x++b.toList.drop y)).Perm (a.toList++b.toList)
 sorted:o.toList.Pairwise (Le key)
 below:∀p∈o.toList,∀z∈a.toList.drop x++b.toList.drop y,Le key p z
def cH (a b r:Array uK):Prop:=r.toList.Perm (a.toList++b.toList)/\r.toList.Pairwise (Le key)
variable  {key}
theorem MW.fin {a b o:Array uK}{x y:Nat}(m:MW key a b o x y){t:List uK}{r:Array uK}(hr:r.toList=o.toList++t)(ht:t.Perm (a.toList.drop x++b.toList.drop y))(hs:t.Pairwise (Le key)):cH key a b r:=by
 unfold cH
 rw[hr]
 exact ⟨(we _ ht).trans m.perm,vU.mpr ⟨m.sorted,hs,λp hp q hq=>m.below p hp q (ht.mem_iff.mp hq)⟩⟩
theorem MW.take {a b o:Array uK}{x y x' y':Nat}(m:MW key a b o x y){t:List uK}{r:Array uK}(hr:r.toList=o.toList++t)(hx:x'<=a.size)(hy:y'<=b.size)
  (ht:(t++(a.toList.drop x'++b.toList.drop y')).Perm (a.toList.drop x++b.toList.drop y)) (hs:t.Pairwise (Le key)) (hb:∀p∈t,∀z∈a.toList.drop x'++b.toList.drop y',Le key p z):MW key a b r x' y':=by
 have sub:∀z,z∈t\/z∈a.toList.drop x'++b.toList.drop y'->z∈a.toList.drop x++b.toList.drop y:=λz hz=>ht.mem_iff.mp (uC.mpr hz)
 refine ⟨hx,hy,?_,?_,?_⟩
 ·rw[hr,vp]
  exact (we _ ht).trans m.perm
 ·rw[hr]
  exact vU.mpr ⟨m.sorted,hs,λp hp q hq=>m.below p hp q (sub q (.inl hq))⟩
 ·rw[hr]
  intro p hp z hz
  rcases uC.mp hp with h | h
  ·exact m.below p h z (sub z (.inr hz))
  ·exact hb p h z hz
theorem drop_cons {α:Type}{l:List α}{i:Nat}{z:α}(h:l[i]? = some z):l.drop i=z :: l.drop (i+1):=by
 obtain ⟨hi,e⟩:=um.mp h
 rw[y6 hi,e]
theorem drop_take {α:Type}(l:List α)(i k:Nat):l.drop i=(l.drop i).take k++l.drop (i+k):=by
 rw[<- BF,wg]
theorem au {a:Array uK}{i:Nat}{z:uK}(h:a[i]? = some z):a.toList[i]? = some z:=by rw[uz];exact h
theorem MW.fR {a b o:Array uK}{x y:Nat}{z:uK}(m:MW key a b o x y)(h:a[x]? = some z)(ha:a.toList.Pairwise (Le key))(hb:∀t∈b.toList.drop y,Le key z t):MW key a b (o.push z) (x+1) y:=by
 have e:=drop_cons (au h)
 have hx:x<a.size:=(wt.mp h).1
 have pa:(z :: a.toList.drop (x+1)).Pairwise (Le key):=by rw[<- e];exact ha.sublist (vK _ _)
 refine m.take (t:=[z]) (by rw[wd]) hx m.hy (by rw[e];exact xX _) (wM _ _) λp hp t ht =>?_
 have ep:p=z:=by simpa using hp
 subst ep
 rcases uC.mp ht with q | q
 ·exact (wD.mp pa).1 t q
 ·exact hb t q
theorem MW.iJ {a b o:Array uK}{x y:Nat}{z:uK}(m:MW key a b o x y)(h:b[y]? = some z)(hb:b.toList.Pairwise (Le key))(ha:∀t∈a.toList.drop x,Le key z t):MW key a b (o.push z) x (y+1):=by
 have e:=drop_cons (au h)
 have hy:y<b.size:=(wt.mp h).1
 have pb:(z :: b.toList.drop (y+1)).Pairwise (Le key):=by rw[<- e];exact hb.sublist (vK _ _)
 refine m.take (t:=[z]) (by rw[wd]) m.hx hy (by rw[e,List.singleton_append];exact zL.symm) (wM _ _) λp hp t ht =>?_
 have ep:p=z:=by simpa using hp
 subst ep
 rcases uC.mp ht with q | q
 ·exact ha t q
 ·exact (wD.mp pb).1 t q
theorem ext_toList (a:Array uK)(x k:Nat):(a.extract x (x+k)).toList=(a.toList.drop x).take k:=by
 rw[v7,vH,xt]
theorem dJ (a:Array uK)(x:Nat):(a.extract x a.size).toList=a.toList.drop x:=by
 rw[v7,vH]
 exact uI (by rw[wI,uo];exact ur _)
theorem av {l:List uK}(h:l.Pairwise (Le key)){i j:Nat}{p q:uK}(hi:l[i]? = some p)(hj:l[j]? = some q)(hij:i<=j):Le key p q:=by
 by_cases e:i=j
 ·subst e
  rw[hi] at hj
  cases hj
  exact wk _
 ·obtain ⟨h1,e1⟩:=um.mp hi
  obtain ⟨h2,e2⟩:=um.mp hj
  have:=xY.mp h i j h1 h2 (by lia)
  rw[e1,e2] at this
  exact this
theorem aK {l:List uK}{i:Nat}{t:uK}(h:t∈l.drop i):∃j,i<=j/\l[j]? = some t:=by
 obtain ⟨n,e⟩:=vf.mp h
 rw[wF] at e
 exact ⟨i+n,by lia,e⟩
theorem fS {l:List uK}{i k:Nat}{t:uK}(h:t∈(l.drop i).take k):∃j,j<k/\l[i+j]? = some t:=by
 obtain ⟨n,e⟩:=vf.mp h
 rw[wm] at e
 split at e
 ·rw[wF] at e
  exact ⟨n,by omega,e⟩
 ·cases e
theorem MW.oj {a b o:Array uK}{x y k:Nat}(m:MW key a b o x y)(hk:x+k<=a.size)(ha:a.toList.Pairwise (Le key))(hb:∀j p,j<k->a.toList[x+j]? = some p->∀t∈b.toList.drop y,Le key p t):MW key a b (o++a.extract x (x+k)) (x+k) y:=by
 refine m.take (t:=(a.toList.drop x).take k) (by rw[vi,ext_toList]) hk m.hy ?_ ?_ λp hp t ht =>?_
 ·rw[<- vp, <- drop_take]
 ·exact ha.sublist ((vP _ _).trans (vK _ _))
 ·obtain ⟨j,hj,e⟩:=fS hp
  rcases uC.mp ht with q | q
  ·obtain ⟨i,hi,e2⟩:=aK q
   exact av ha e e2 (by lia)
  ·exact hb j p hj e t q
theorem MW.om {a b o:Array uK}{x y k:Nat}(m:MW key a b o x y)(hk:y+k<=b.size)(hb:b.toList.Pairwise (Le key))(ha:∀j p,j<k->b.toList[y+j]? = some p->∀t∈a.toList.drop x,Le key p t):MW key a b (o++b.extract y (y+k)) x (y+k):=by
 refine m.take (t:=(b.toList.drop y).take k) (by rw[vi,ext_toList]) m.hx hk ?_ ?_ λp hp t ht =>?_
 ·rw[drop_take b.toList y k]
  have e:((b.toList.drop y).take k++b.toList.drop (y+k)).take k=(b.toList.drop y).take k:=by rw[<- drop_take]
  rw[e]
  refine (List.perm_append_comm_assoc _ _ _)
 ·exact hb.sublist ((vP _ _).trans (vK _ _))
 ·obtain ⟨j,hj,e⟩:=fS hp
  rcases uC.mp ht with q | q
  ·exact ha j p hj e t q
  ·obtain ⟨i,hi,e2⟩:=aK q
   exact av hb e e2 (by lia)
theorem MW.mJ {a b o:Array uK}{x y:Nat}(m:MW key a b o x y)(ha:a.toList.Pairwise (Le key))(hy:y=b.size):cH key a b (o++a.extract x a.size++b.extract y b.size):=by
 subst hy
 have e:b.toList.drop b.size=[]:=zR (by rw[uo];exact ur _)
 refine m.fin (t:=a.toList.drop x) (by rw[vi,vi,dJ,dJ,e,vE]) (by rw[e,vE]) (ha.sublist (vK _ _))
theorem MW.mK {a b o:Array uK}{x y:Nat}(m:MW key a b o x y)(hb:b.toList.Pairwise (Le key))(hx:x=a.size):cH key a b (o++a.extract x a.size++b.extract y b.size):=by
 subst hx
 have e:a.toList.drop a.size=[]:=zR (by rw[uo];exact ur _)
 refine m.fin (t:=b.toList.drop y) (by rw[vi,vi,dJ,dJ,e,vE]) (by rw[e,yJ]) (hb.sublist (vK _ _))
theorem MW.last {a b o:Array uK}{x y:Nat}(m:MW key a b o x y)(ha:a.toList.Pairwise (Le key))(hb:b.toList.Pairwise (Le key))(hx:x+1=a.size)(hl:∀p q,p∈b.toList->a[a.size-1]? = some q->Le key p q):cH key a b (o++b.extract y b.size++a.extract x a.size):=by
 refine m.fin (t:=b.toList.drop y++a.toList.drop x) (by rw[vi,vi,dJ,dJ,vp]) xG ?_
 refine vU.mpr ⟨hb.sublist (vK _ _),ha.sublist (vK _ _),λp hp q hq=>hl p q (xU hp) ?_⟩
 obtain ⟨i,hi,e⟩:=aK hq
 rw[uz] at e
 have hi2:i<a.size:=(wt.mp e).1
 rw[show a.size-1=i by lia]
 exact e
theorem MW.size {a b o:Array uK}{x y:Nat}(m:MW key a b o x y):o.size+(a.size-x)+(b.size-y)=a.size+b.size:=by
 have e:=m.perm.length_eq
 simp only[uv,wI,uo] at e
 lia
end
structure Sm (st st':vd):Prop where
 k:kindOf st'=kindOf st
 a:uT st'=uT st
 p:va st'=va st
 f:failedOf st'=failedOf st
theorem Sm.refl (st:vd):Sm st st:=⟨rfl,rfl,rfl,rfl⟩
theorem Sm.mg {st st':vd}(h:Sm st st')(n:Nat):Sm st (SortSt.mk' (kindOf st') (uT st') (va st') n (failedOf st')):=⟨h.k,h.a,h.p,h.f⟩
open PySem PyProof.Rows
section
variable  {prog:uM}{w:vt}{A:vz}{E:ug->uj->Prop}{s:uj}{O:yW}{key:uK->O.α}{U:uK->Prop}{κ:SortKind}
theorem aN {a:Array uK}{i:Nat}(h:i<a.size):∃z,a[i]? = some z:=⟨a[i],by simp[h]⟩
theorem bj {a:Array uK}{i:Nat}{z:uK}(h:a[i]? = some z):z∈a.toList:=vf.mpr ⟨i,by rw[uz];exact h⟩
theorem ltq {x n:Nat}(h:x<=n)(c:¬ (x == n)=true):x<n:=AD h λz=>c (beq_iff_eq.mpr z)
abbrev LoC:=Option (Array uK)×Array uK×Nat×Nat×Nat×Nat×Nat
def pO (a b o:Array uK)(x y mg ac bc:Nat):StateT vd Sem (ForInStep LoC):=do
  let z ← elem' a x
  if (x+1+1 == a.size)=true then pure (.done (some (o.push z++b.extract y b.size++a.extract (x+1) a.size),o.push z,x+1,y,mg,ac,bc))
  else if (decide (ac<7) && decide (bc<7))=true then pure (.done (none,o.push z,x+1,y,mg,ac,bc))
  else pure (.yield (none,o.push z,x+1,y,mg,ac,bc))
def pP (a b o:Array uK)(x y mg ac bc:Nat):StateT vd Sem (ForInStep LoC):=do
  let z ← elem' b y
  if (y+1 == b.size)=true then pure (.done (some (o.push z++a.extract x a.size++b.extract (y+1) b.size),o.push z,x,y+1,mg,ac,bc))
  else do
    let z2 ← elem' a x
    let __x ← gal true z2 b (y+1) (b.size-(y+1)) 0
    match __x with
    | some k =>
      if k>0 then
        if (y+1+k == b.size)=true then pure (.done (some (o.push z++b.extract (y+1) (y+1+k)++a.extract x a.size++b.extract (y+1+k) b.size),o.push z++b.extract (y+1) (y+1+k),x,y+1+k,mg,ac,k))
        else pO a b (o.push z++b.extract (y+1) (y+1+k)) x (y+1+k) mg ac k
      else pO a b (o.push z) x (y+1) mg ac k
    | _=>pure (.done (some (o.push z++a.extract x a.size++b.extract (y+1) b.size),o.push z,x,y+1,mg,ac,bc))
def mL (a b p:Array uK)(x y ac bc mg:Nat):StateT vd Sem (ForInStep LoC):=do
  modify (λs=>SortSt.mk' (kindOf s) (uT s) (va s) mg (failedOf s))
  let z ← elem' b y
  let __x ← gal false z a x (a.size-x) 0
  match __x with
  | some k =>
    if k>0 then
      if (x+k+1 == a.size)=true then pure (.done (some (p++a.extract x (x+k)++b.extract y b.size++a.extract (x+k) a.size),p++a.extract x (x+k),x+k,y,mg,k,bc))
      else if (x+k == a.size)=true then pure (.done (some (p++a.extract x (x+k)++a.extract (x+k) a.size++b.extract y b.size),p++a.extract x (x+k),x+k,y,mg,k,bc))
      else pP a b (p++a.extract x (x+k)) (x+k) y mg k bc
    else pP a b p x y mg k bc
  | _=>pure (.done (some (p++a.extract x a.size++b.extract y b.size),p,x,y,mg,ac,bc))
def LoQ (key:uK->O.α)(a b:Array uK)(st:vd)(n:Nat)(r:ForInStep LoC)(st':vd):Prop:=match r with
 | .done c=>Sm st st'/\((∃r p x y mg ac bc,c=(some r,p,x,y,mg,ac,bc)/\cH key a b r)\/∃p x y mg ac bc,c=(none,p,x,y,mg,ac,bc)/\MW key a b p x y/\x+1<a.size/\y<b.size/\n<=p.size)
 | .yield c=>Sm st st'/\∃p x y mg ac bc,c=(none,p,x,y,mg,ac,bc)/\MW key a b p x y/\x+1<a.size/\y<b.size/\n<=p.size
theorem LoQ.out {a b:Array uK}{st st':vd}{n:Nat}{r:Array uK}{c:Array uK×Nat×Nat×Nat×Nat×Nat}(sm:Sm st st')(f:cH key a b r):LoQ key a b st n (.done (some r,c)) st':=by
 obtain ⟨p,x,y,mg,ac,bc⟩:=c
 exact ⟨sm,.inl ⟨_,_,_,_,_,_,_,rfl,f⟩⟩
theorem lR {a b:Array uK}{st st':vd}(ha:a.toList.Pairwise (Le key))(hb:b.toList.Pairwise (Le key))(hl:∀p q,p∈b.toList->a[a.size-1]? = some q->Le key p q)
  {o:Array uK} {x y mg ac bc n:Nat} {za:uK} (sm:Sm st st') (ea:a[x]? = some za) (m4:MW key a b (o.push za) (x+1) y) (hx:x+1<a.size) (hy:y<b.size) (hn:n<=o.size):wpS (vk prog w) A E s (pO a b o x y mg ac bc) (LoQ key a b st n) st':=by
 unfold pO
 refine uE (aL ea ?_)
 by_cases d5:(x+1+1 == a.size)=true
 ·rw[if_pos d5]
  exact uN (LoQ.out sm (m4.last ha hb (beq_iff_eq.mp d5) hl))
 rw[if_neg d5]
 have hx2:x+1+1<a.size:=ltq hx d5
 have hn':n<=(o.push za).size:=by rw[xg];exact xM hn
 split
 ·exact uN ⟨sm,.inr ⟨_,_,_,_,_,_,rfl,m4,hx2,hy,hn'⟩⟩
 ·exact uN ⟨sm,_,_,_,_,_,_,rfl,m4,hx2,hy,hn'⟩
theorem lS (C:Cmp prog w A s O key U κ){a b:Array uK}{st st':vd}(hκ:kindOf st=κ)(ua:∀p∈a.toList,U p)(ub:∀p∈b.toList,U p)
  (ha:a.toList.Pairwise (Le key)) (hb:b.toList.Pairwise (Le key)) (hl:∀p q,p∈b.toList->a[a.size-1]? = some q->Le key p q)
  {o:Array uK} {x y mg ac bc n:Nat} {zb:uK} (sm:Sm st st') (eb:b[y]? = some zb) (mk:MW key a b o x y) (bl:∀t∈a.toList.drop x,Le key zb t) (hx1:x+1<a.size) (hy:y<b.size) (hn:n<=o.size):wpS (vk prog w) A E s (pP a b o x y mg ac bc) (LoQ key a b st n) st':=by
 unfold pP
 refine uE (aL eb ?_)
 have m2:=mk.iJ eb hb bl
 by_cases d3:(y+1 == b.size)=true
 ·rw[if_pos d3]
  exact uN (LoQ.out sm (m2.mJ ha (beq_iff_eq.mp d3)))
 rw[if_neg d3]
 have hy1:y+1<b.size:=ltq hy d3
 have hxa:x<a.size:=zi hx1
 obtain ⟨za,ea⟩:=aN hxa
 refine uE (aL ea ?_)
 refine uE (rV C (λi=>(b[y+1+i]?).getD za) (sm.k.trans hκ) (ua _ (bj ea)) (λi hi =>?_) (λi hi =>?_) (λi j hij hj =>?_) (AU hy1) λk1 hk1 g1 g2 =>?_)
 ·obtain ⟨z,e⟩:=aN (show y+1+i<b.size by omega)
  rw[e];rfl
 ·obtain ⟨z,e⟩:=aN (show y+1+i<b.size by omega)
  rw[e];exact ub _ (bj e)
 ·obtain ⟨z,e⟩:=aN (show y+1+i<b.size by omega)
  obtain ⟨z',e'⟩:=aN (show y+1+j<b.size by omega)
  rw[e,e'];exact av hb (au e) (au e') (yK hij _)
 dsimp only at g1 g2 ⊢
 have tb:∀j q,j<k1->b.toList[y+1+j]? = some q->∀t∈a.toList.drop x,Le key q t:=λj q hj e t ht=>by
  have z:=g1 j hj
  rw[uz] at e
  rw[e] at z
  obtain ⟨n,hn,e2⟩:=aK ht
  exact vo (vQ z) (av ha (au ea) e2 hn)
 have hk1':y+1+k1<=b.size:=by omega
 have m3:=m2.om (k:=k1) hk1' hb tb
 have bl2:∀t∈b.toList.drop (y+1+k1),Le key za t:=λt ht=>by
  obtain ⟨n,hn,e2⟩:=aK ht
  rw[uz] at e2
  have hn2:n<b.size:=(wt.mp e2).1
  have z:=g2 (n-(y+1)) (by omega) (by omega)
  rw[show y+1+(n-(y+1))=n by omega,e2] at z
  exact z
 have hn1:n<=(o.push zb).size:=by rw[xg];exact xM hn
 by_cases k2:k1>0
 ·rw[if_pos k2]
  by_cases d4:(y+1+k1 == b.size)=true
  ·rw[if_pos d4]
   exact uN (LoQ.out sm (m3.mJ ha (beq_iff_eq.mp d4)))
  rw[if_neg d4]
  exact lR ha hb hl sm ea (m3.fR ea ha bl2) hx1 (ltq hk1' d4) (vc hn1 (by rw[xN];exact wJ _ _))
 ·rw[if_neg k2]
  obtain rfl:k1=0:=xB k2
  exact lR ha hb hl sm ea (m2.fR ea ha bl2) hx1 hy1 hn1
theorem lT (C:Cmp prog w A s O key U κ){a b:Array uK}{st st':vd}(hκ:kindOf st=κ)(ua:∀p∈a.toList,U p)(ub:∀p∈b.toList,U p)
  (ha:a.toList.Pairwise (Le key)) (hb:b.toList.Pairwise (Le key)) (hl:∀p q,p∈b.toList->a[a.size-1]? = some q->Le key p q)
  {p:Array uK} {x y ac bc n:Nat} (mg:Nat) (sm:Sm st st') (m:MW key a b p x y) (hx:x+1<a.size) (hy:y<b.size) (hn:n<=p.size):wpS (vk prog w) A E s (mL a b p x y ac bc mg) (LoQ key a b st n) st':=by
 unfold mL
 obtain ⟨zb,eb⟩:=aN hy
 refine uE (wQ ?_)
 refine uE (aL eb ?_)
 refine uE (rU C (λi=>(a[x+i]?).getD zb) ((sm.mg _).k.trans hκ) (ub _ (bj eb)) (λi hi =>?_) (λi hi =>?_) (λi j hij hj =>?_) (AU (zi hx)) λk hk h1 h2 =>?_)
 ·obtain ⟨z,e⟩:=aN (show x+i<a.size by lia)
  rw[e];rfl
 ·obtain ⟨z,e⟩:=aN (show x+i<a.size by lia)
  rw[e];exact ua _ (bj e)
 ·obtain ⟨z,e⟩:=aN (show x+i<a.size by lia)
  obtain ⟨z',e'⟩:=aN (show x+j<a.size by lia)
  rw[e,e'];exact av ha (au e) (au e') (yK hij _)
 dsimp only at h1 h2 ⊢
 have ta:∀j q,j<k->a.toList[x+j]? = some q->∀t∈b.toList.drop y,Le key q t:=λj q hj e t ht=>by
  have z:=h1 j hj
  rw[uz] at e
  rw[e] at z
  obtain ⟨n,hn,e2⟩:=aK ht
  exact vo (show O.kle (key q) (key zb) from z) (av hb (au eb) e2 hn)
 have hk':x+k<=a.size:=by lia
 have mk:=m.oj (k:=k) hk' ha ta
 have bl:∀t∈a.toList.drop (x+k),Le key zb t:=λt ht=>by
  obtain ⟨n,hn,e2⟩:=aK ht
  rw[uz] at e2
  have hn2:n<a.size:=(wt.mp e2).1
  have z:=h2 (n-x) (by lia) (by lia)
  rw[show x+(n-x)=n by lia,e2] at z
  exact vQ z
 by_cases k0:k>0
 ·rw[if_pos k0]
  by_cases d1:(x+k+1 == a.size)=true
  ·rw[if_pos d1]
   exact uN (LoQ.out (sm.mg _) (mk.last ha hb (beq_iff_eq.mp d1) hl))
  rw[if_neg d1]
  by_cases d2:(x+k == a.size)=true
  ·rw[if_pos d2]
   exact uN (LoQ.out (sm.mg _) (mk.mK hb (beq_iff_eq.mp d2)))
  rw[if_neg d2]
  exact lS C hκ ua ub ha hb hl (sm.mg _) eb mk bl (ltq (ltq hk' d2) d1) hy (vc hn (by rw[xN];exact wJ _ _))
 ·rw[if_neg k0]
  obtain rfl:k=0:=xB k0
  exact lS C hκ ua ub ha hb hl (sm.mg _) eb m bl hx hy hn
theorem pQ (C:Cmp prog w A s O key U κ){a b:Array uK}{st st':vd}(hκ:kindOf st=κ)(ua:∀p∈a.toList,U p)(ub:∀p∈b.toList,U p)
  (ha:a.toList.Pairwise (Le key)) (hb:b.toList.Pairwise (Le key)) (hl:∀p q,p∈b.toList->a[a.size-1]? = some q->Le key p q)
  {p:Array uK} {x y ac bc n mg:Nat} (sm:Sm st st') (m:MW key a b p x y) (hx:x+1<a.size) (hy:y<b.size) (hn:n<=p.size):wpS (vk prog w) A E s (if mg>1 then mL a b p x y ac bc (mg-1) else mL a b p x y ac bc mg) (LoQ key a b st n) st':=by
 split
 ·exact lT C hκ ua ub ha hb hl (mg-1) sm m hx hy hn
 ·exact lT C hκ ua ub ha hb hl mg sm m hx hy hn
abbrev LoD:=Option (Array uK)×Array uK×Nat×Nat×Nat×Nat
abbrev LoE:=Option (Array uK)×Array uK×Nat×Nat×Nat
def oo (a b:Array uK)(mg:Nat)(c:LoD):StateT vd Sem (ForInStep LoD):=do
  let u ← elem' b c.2.2.2.1
  let v ← elem' a c.2.2.1
  let __x ← lt' u v
  match __x with
  | some bw =>
    if bw=true then do
      let z ← elem' b c.2.2.2.1
      if (c.2.2.2.1+1 == b.size)=true then pure (.done (some (c.2.1.push z++a.extract c.2.2.1 a.size++b.extract (c.2.2.2.1+1) b.size),c.2.1.push z,c.2.2.1,c.2.2.2.1+1,0,c.2.2.2.2.2+1))
      else if c.2.2.2.2.2+1≥mg then pure (.done (none,c.2.1.push z,c.2.2.1,c.2.2.2.1+1,0,c.2.2.2.2.2+1))
      else pure (.yield (none,c.2.1.push z,c.2.2.1,c.2.2.2.1+1,0,c.2.2.2.2.2+1))
    else do
      let z ← elem' a c.2.2.1
      if (c.2.2.1+1+1 == a.size)=true then pure (.done (some (c.2.1.push z++b.extract c.2.2.2.1 b.size++a.extract (c.2.2.1+1) a.size),c.2.1.push z,c.2.2.1+1,c.2.2.2.1,c.2.2.2.2.1+1,0))
      else if c.2.2.2.2.1+1≥mg then pure (.done (none,c.2.1.push z,c.2.2.1+1,c.2.2.2.1,c.2.2.2.2.1+1,0))
      else pure (.yield (none,c.2.1.push z,c.2.2.1+1,c.2.2.2.1,c.2.2.2.2.1+1,0))
  | _=>pure (.done (some (c.2.1++a.extract c.2.2.1 a.size++b.extract c.2.2.2.1 b.size),c.2.1,c.2.2.1,c.2.2.2.1,c.2.2.2.2.1,c.2.2.2.2.2))
def rW (a b:Array uK)(c:LoC):StateT vd Sem (ForInStep LoC) :=
 if c.2.2.2.2.1>1 then mL a b c.2.1 c.2.2.1 c.2.2.2.1 c.2.2.2.2.2.1 c.2.2.2.2.2.2 (c.2.2.2.2.1-1) else mL a b c.2.1 c.2.2.1 c.2.2.2.1 c.2.2.2.2.2.1 c.2.2.2.2.2.2 c.2.2.2.2.1
def kK (a b:Array uK)(c:LoE):StateT vd Sem (ForInStep LoE):=do
  let d ← forIn [0:a.size+b.size] ((none,c.2.1,c.2.2.1,c.2.2.2.1,0,0):LoD) λ_ d=>oo a b c.2.2.2.2 d
  match d.1 with
  | some r=>pure (.done (some r,d.2.1,d.2.2.1,d.2.2.2.1,c.2.2.2.2))
  | none=>do
    rule "list.sort.gallop"
    let e ← forIn [0:a.size+b.size] ((none,d.2.1,d.2.2.1,d.2.2.2.1,c.2.2.2.2+1,d.2.2.2.2.1,d.2.2.2.2.2):LoC) λ_ e=>rW a b e
    match e.1 with
    | some r=>pure (.done (some r,e.2.1,e.2.2.1,e.2.2.2.1,e.2.2.2.2.1))
    | none=>do
      modify (λs=>SortSt.mk' (kindOf s) (uT s) (va s) (e.2.2.2.2.1+1) (failedOf s))
      pure (.yield (none,e.2.1,e.2.2.1,e.2.2.2.1,e.2.2.2.2.1+1))
theorem pR (a b:Array uK):mLo a b=(do
    rule "list.sort.merge-lo"
    let z ← elem' b 0
    if (1 == b.size)=true then pure (#[z]++a.extract 0 a.size++b.extract 1 b.size)
    else if (0+1 == a.size)=true then pure (#[z]++b.extract 1 b.size++a.extract 0 a.size)
    else do
      let g ← get
      let c ← forIn [0:a.size+b.size] ((none, #[z],0,1,gallopOf g):LoE) λ_ c=>kK a b c
      match c.1 with
      | some r=>pure r
      | none=>unsupported "internal:list.sort.merge-bound"):=by
  kernel_rfl
def LdI (key:uK->O.α)(a b:Array uK)(st:vd)(n:Nat)(c:LoD)(st':vd):Prop:=Sm st st'/\∃o' x y ac bc,c=(none,o',x,y,ac,bc)/\MW key a b o' x y/\x+1<a.size/\y<b.size/\n<=o'.size
def LdQ (key:uK->O.α)(a b:Array uK)(st:vd)(n:Nat)(c:LoD)(st':vd):Prop:=Sm st st'/\((∃r o x y ac bc,c=(some r,o,x,y,ac,bc)/\cH key a b r)\/∃o' x y ac bc,c=(none,o',x,y,ac,bc)/\MW key a b o' x y/\x+1<a.size/\y<b.size/\n<=o'.size)
theorem oq (C:Cmp prog w A s O key U κ){a b:Array uK}{st st':vd}(hκ:kindOf st=κ)(ua:∀p∈a.toList,U p)(ub:∀p∈b.toList,U p)
  (ha:a.toList.Pairwise (Le key)) (hb:b.toList.Pairwise (Le key)) (hl:∀p q,p∈b.toList->a[a.size-1]? = some q->Le key p q)
  {mg n m':Nat} {c:LoD} (I:LdI key a b st n c st') (hm:m'<=n+1) {Q:ForInStep LoD->vd->Prop} (h:∀r st',(match r with | .done c'=>LdQ key a b st (n+1) c' st' | .yield c'=>LdI key a b st m' c' st')->Q r st'):wpS (vk prog w) A E s (oo a b mg c) Q st':=by
 obtain ⟨sm2,o',x,y,ac,bc,rfl,m,hx,hy,hz⟩:=I
 unfold oo
 obtain ⟨za,ea⟩:=aN (zi hx)
 obtain ⟨zb,eb⟩:=aN hy
 refine uE (aL eb (uE (aL ea (uE (C.lt _ st' zb za _ (sm2.k.trans hκ) (ub _ (bj eb)) (ua _ (bj ea)) ?_)))))
 dsimp only
 have sz:∀z,n+1<=(o'.push z).size:=λz=>by rw[xg];exact Bk hz
 cases hlt:O.blt (key zb) (key za) with
 | true =>
  rw[if_pos rfl]
  refine uE (aL eb ?_)
  have m1:=m.iJ eb hb λt ht=>by
   obtain ⟨n,hn,e⟩:=aK ht
   exact vo (vQ hlt) (av ha (au ea) e hn)
  by_cases c3:(y+1 == b.size)=true
  ·rw[if_pos c3]
   exact uN (h _ _ ⟨sm2,.inl ⟨_,_,_,_,_,_,rfl,m1.mJ ha (beq_iff_eq.mp c3)⟩⟩)
  ·rw[if_neg c3]
   have c3':=ltq hy c3
   split
   ·exact uN (h _ _ ⟨sm2,.inr ⟨_,_,_,_,_,rfl,m1,hx,c3',sz _⟩⟩)
   ·exact uN (h _ _ ⟨sm2,_,_,_,_,_,rfl,m1,hx,c3',vc hm (sz _)⟩)
 | false =>
  rw[if_neg uP]
  refine uE (aL ea ?_)
  have m1:=m.fR ea ha λt ht=>by
   obtain ⟨n,hn,e⟩:=aK ht
   exact vo (show O.kle (key za) (key zb) from hlt) (av hb (au eb) e hn)
  by_cases c3:(x+1+1 == a.size)=true
  ·rw[if_pos c3]
   exact uN (h _ _ ⟨sm2,.inl ⟨_,_,_,_,_,_,rfl,m1.last ha hb (beq_iff_eq.mp c3) hl⟩⟩)
  ·rw[if_neg c3]
   have c3':=ltq hx c3
   split
   ·exact uN (h _ _ ⟨sm2,.inr ⟨_,_,_,_,_,rfl,m1,c3',hy,sz _⟩⟩)
   ·exact uN (h _ _ ⟨sm2,_,_,_,_,_,rfl,m1,c3',hy,vc hm (sz _)⟩)
def LeI (key:uK->O.α)(a b:Array uK)(st:vd)(n:Nat)(c:LoE)(st':vd):Prop:=Sm st st'/\∃o x y mg,c=(none,o,x,y,mg)/\MW key a b o x y/\x+1<a.size/\y<b.size/\n+1<=o.size
def LeQ (key:uK->O.α)(a b:Array uK)(st:vd)(c:LoE)(st':vd):Prop:=Sm st st'/\((∃r o x y mg,c=(some r,o,x,y,mg)/\cH key a b r)\/∃o x y mg,c=(none,o,x,y,mg)/\MW key a b o x y/\x+1<a.size/\y<b.size/\a.size+b.size+1<=o.size)
theorem mM (C:Cmp prog w A s O key U κ){a b:Array uK}{st st':vd}(hκ:kindOf st=κ)(ua:∀p∈a.toList,U p)(ub:∀p∈b.toList,U p)
  (ha:a.toList.Pairwise (Le key)) (hb:b.toList.Pairwise (Le key)) (na:0<a.size) (hl:∀p q,p∈b.toList->a[a.size-1]? = some q->Le key p q)
  {n:Nat} {c:LoE} (I:LeI key a b st n c st'):wpS (vk prog w) A E s (kK a b c) (λr st'=>match r with | .done c'=>LeQ key a b st c' st' | .yield c'=>LeI key a b st (n+1) c' st') st':=by
 obtain ⟨sm1,o,x,y,mg,rfl,m,hx,hy,hz⟩:=I
 unfold kK
 have q1:1<=a.size+b.size:=vc na (wJ _ _)
 refine uE (wC (vN (I:=λj c st'=>LdI key a b st (o.size+min j 1) c st') (Q:=LdQ key a b st (o.size+1)) (λj c st2 _ hj J=>oq (n:=o.size+min j 1) (m':=o.size+min (j+1) 1) C hκ ua ub ha hb hl J (by lia) λr st' k =>?_) (λc st' J =>?_) ⟨sm1,o,x,y,0,0,rfl,m,hx,hy,ur _⟩) ?_)
 ·cases r with
  | done c'=>exact k.imp id λz=>z.imp id λ⟨o',x,y,ac,bc,e,m,hx,hy,hz⟩=>⟨o',x,y,ac,bc,e,m,hx,hy,by lia⟩
  | yield c'=>exact k
 ·obtain ⟨sm,o',x,y,ac,bc,e,m,hx,hy,hz⟩:=J
  exact ⟨sm,.inr ⟨o',x,y,ac,bc,e,m,hx,hy,by lia⟩⟩
 rintro c st2 ⟨sm2,⟨r,o',x,y,ac,bc,rfl,fr⟩ | ⟨o',x,y,ac,bc,rfl,m,hx,hy,hz2⟩⟩
 ·exact uN ⟨sm2,.inl ⟨_,_,_,_,_,rfl,fr⟩⟩
 dsimp only
 refine uE (Ac (yG ⟨rfl,?_⟩))
 refine uE (wC (vN (I:=λ_ c st'=>LoQ key a b st o'.size (.yield c) st') (Q:=λc st'=>LoQ key a b st o'.size (.done c) st') (λj c st3 _ hj J =>?_) (λc st' J=>⟨J.1,.inr J.2⟩) ⟨sm2,o',x,y,_,ac,bc,rfl,m,hx,hy,ur _⟩) ?_)
 ·obtain ⟨sm3,p,x,y,mg,ac,bc,rfl,m,hx,hy,hz3⟩:=J
  refine wC (pQ C hκ ua ub ha hb hl sm3 m hx hy hz3) ?_
  intro r st' h
  cases r <;> exact h
 rintro c st3 ⟨sm3,⟨r,p,x,y,mg,ac,bc,rfl,fr⟩ | ⟨p,x,y,mg,ac,bc,rfl,m,hx,hy,hz3⟩⟩
 ·exact uN ⟨sm3,.inl ⟨_,_,_,_,_,rfl,fr⟩⟩
 ·dsimp only
  exact uE (wQ (uN ⟨sm3.mg _,p,x,y,_,rfl,m,hx,hy,by lia⟩))
theorem rX (C:Cmp prog w A s O key U κ){a b:Array uK}{st:vd}{Q:Array uK->vd->Prop}(hκ:kindOf st=κ)(ua:∀p∈a.toList,U p)(ub:∀p∈b.toList,U p)
  (ha:a.toList.Pairwise (Le key)) (hb:b.toList.Pairwise (Le key)) (na:0<a.size) (nb:0<b.size) (h0:∀p q,b[0]? = some p->a[0]? = some q->Le key p q) (hl:∀p q,p∈b.toList->a[a.size-1]? = some q->Le key p q)
  (h:∀r st',Sm st st'->cH key a b r->Q r st'):wpS (vk prog w) A E s (mLo a b) Q st:=by
 rw[pR]
 refine uE (Ac (yG ⟨rfl,?_⟩))
 obtain ⟨b0,eb0⟩:=aN nb
 obtain ⟨a0,ea0⟩:=aN na
 have a0le:∀t∈a.toList,Le key a0 t:=λt ht=>by
  obtain ⟨i,e⟩:=vf.mp ht
  exact av ha (au ea0) e (vv _)
 have m0:MW key a b #[] 0 0:=⟨vv _,vv _,xX _,List.Pairwise.nil,λp hp=>by cases hp⟩
 have m1:MW key a b #[b0] 0 1:=m0.iJ eb0 hb λt ht=>vo (h0 _ _ eb0 ea0) (a0le t ht)
 refine uE (aL eb0 ?_)
 by_cases c1:(1 == b.size)=true
 ·rw[if_pos c1]
  exact uN (h _ st (Sm.refl st) (m1.mJ ha (beq_iff_eq.mp c1)))
 rw[if_neg c1]
 by_cases c2:(0+1 == a.size)=true
 ·rw[if_pos c2]
  exact uN (h _ st (Sm.refl st) (m1.last ha hb (beq_iff_eq.mp c2) hl))
 rw[if_neg c2]
 refine uE (zF ?_)
 refine uE (wC (vN (I:=λi c st'=>LeI key a b st i c st') (Q:=LeQ key a b st) (λi c st1 _ _ J=>wC (mM C hκ ua ub ha hb na hl J) λr st' h=>by cases r <;> exact h) (λc st' J =>?_) ⟨Sm.refl st,_,_,_,_,rfl,m1,ltq na c2,ltq nb c1,ur _⟩) ?_)
 ·obtain ⟨sm,o,x,y,mg,e,m,hx,hy,hz⟩:=J
  exact ⟨sm,.inr ⟨o,x,y,mg,e,m,hx,hy,by lia⟩⟩
 rintro c st' ⟨sm,⟨r,o,x,y,mg,rfl,fr⟩ | ⟨o,x,y,mg,rfl,m,hx,hy,hz⟩⟩
 ·exact uN (h r st' sm fr)
 ·have:=m.size
  lia
end
open PySem PyProof.Rows
section
variable  {O:yW}(key:uK->O.α)
structure MV (a b o:Array uK)(x y:Nat):Prop where
 hx:x<=a.size
 hy:y<=b.size
 perm:((a.toList.take x++b.toList.take y)++o.toList.reverse).Perm (a.toList++b.toList)
 sorted:o.toList.reverse.Pairwise (Le key)
 above:∀p∈a.toList.take x++b.toList.take y,∀q∈o.toList.reverse,Le key p q
variable  {key}
theorem MV.fin {a b o:Array uK}{x y:Nat}(m:MV key a b o x y){t:List uK}{r:Array uK}(hr:r.toList=t++o.toList.reverse)(ht:t.Perm (a.toList.take x++b.toList.take y))(hs:t.Pairwise (Le key)):cH key a b r:=by
 unfold cH
 rw[hr]
 exact ⟨(wV _ ht).trans m.perm,vU.mpr ⟨hs,m.sorted,λp hp q hq=>m.above p (ht.mem_iff.mp hp) q hq⟩⟩
theorem MV.take {a b o:Array uK}{x y x' y':Nat}(m:MV key a b o x y){t:List uK}{r:Array uK}(hr:r.toList.reverse=t++o.toList.reverse)(hx:x'<=a.size)(hy:y'<=b.size)
  (ht:((a.toList.take x'++b.toList.take y')++t).Perm (a.toList.take x++b.toList.take y)) (hs:t.Pairwise (Le key)) (hb:∀p∈a.toList.take x'++b.toList.take y',∀q∈t,Le key p q):MV key a b r x' y':=by
 have sub:∀z,z∈a.toList.take x'++b.toList.take y'\/z∈t->z∈a.toList.take x++b.toList.take y:=λz hz=>ht.mem_iff.mp (uC.mpr hz)
 refine ⟨hx,hy,?_,?_,?_⟩
 ·rw[hr, <- vp]
  exact (wV _ ht).trans m.perm
 ·rw[hr]
  exact vU.mpr ⟨hs,m.sorted,λp hp q hq=>m.above p (sub p (.inr hp)) q hq⟩
 ·rw[hr]
  intro p hp z hz
  rcases uC.mp hz with h | h
  ·exact hb p hp z h
  ·exact m.above p (sub p (.inl hp)) z h
theorem aO {l:List uK}{k:Nat}{t:uK}(h:t∈l.take k):∃j,j<k/\l[j]? = some t:=by
 obtain ⟨n,e⟩:=vf.mp h
 rw[wm] at e
 split at e
 ·exact ⟨n,by omega,e⟩
 ·cases e
theorem iK {l:List uK}{x:Nat}{z:uK}(hx:1<=x)(h:l[x-1]? = some z):l.take x=l.take (x-1)++[z]:=by
 obtain ⟨n,rfl⟩:∃n,x=n+1:=⟨x-1,by lia⟩
 rw[Nat.add_sub_cancel] at h ⊢
 rw[vj,h]
 rfl
theorem lU (a:Array uK)(c x:Nat)(hx:x<=a.size):(a.extract c x).toList=(a.toList.take x).drop c:=by
 rw[v7,vH,List.drop_take]
theorem dM (a:Array uK)(x:Nat):(a.extract 0 x).toList=a.toList.take x:=by
 rw[v7,vH,y7,Nat.sub_zero]
theorem MV.fR {a b o:Array uK}{x y:Nat}{z:uK}(m:MV key a b o x y)(h1:1<=x)(h:a[x-1]? = some z)(ha:a.toList.Pairwise (Le key))(hb:∀t∈b.toList.take y,Le key t z):MV key a b (o.push z) (x-1) y:=by
 have e:=iK h1 (au h)
 refine m.take (t:=[z]) (by rw[wd,yc];rfl) (by have:=m.hx;lia) m.hy ?_ (wM _ _) λp hp q hq =>?_
 ·rw[e,vp,vp]
  exact we _ xG
 ·have eq:q=z:=by simpa using hq
  subst eq
  rcases uC.mp hp with r | r
  ·obtain ⟨j,hj,e2⟩:=aO r
   exact av ha e2 (au h) (by lia)
  ·exact hb p r
theorem MV.iJ {a b o:Array uK}{x y:Nat}{z:uK}(m:MV key a b o x y)(h1:1<=y)(h:b[y-1]? = some z)(hb:b.toList.Pairwise (Le key))(ha:∀t∈a.toList.take x,Le key t z):MV key a b (o.push z) x (y-1):=by
 have e:=iK h1 (au h)
 refine m.take (t:=[z]) (by rw[wd,yc];rfl) m.hx (by have:=m.hy;lia) ?_ (wM _ _) λp hp q hq =>?_
 ·rw[e,vp]
 ·have eq:q=z:=by simpa using hq
  subst eq
  rcases uC.mp hp with r | r
  ·exact ha p r
  ·obtain ⟨j,hj,e2⟩:=aO r
   exact av hb e2 (au h) (by lia)
theorem lV (l:List uK){c x:Nat}(h:c<=x):l.take x=l.take c++(l.take x).drop c:=by
 have e:(l.take x).take c=l.take c:=by rw[List.take_take,Nat.min_eq_left h]
 rw[<- e,wg]
theorem gw {l:List uK}{c x:Nat}{t:uK}(h:t∈(l.take x).drop c):∃j,c<=j/\j<x/\l[j]? = some t:=by
 obtain ⟨j,hj,e⟩:=aK h
 rw[wm] at e
 split at e
 ·exact ⟨j,hj,by omega,e⟩
 ·cases e
theorem MV.oj {a b o:Array uK}{x y c:Nat}(m:MV key a b o x y)(hc:c<=x)(ha:a.toList.Pairwise (Le key))(hb:∀j p,c<=j->j<x->a.toList[j]? = some p->∀t∈b.toList.take y,Le key t p):MV key a b (o++(a.extract c x).reverse) c y:=by
 refine m.take (t:=(a.toList.take x).drop c) (by rw[vi,yc,xc,Af,lU _ _ _ m.hx]) (vc hc m.hx) m.hy ?_ ?_ λp hp q hq =>?_
 ·refine List.Perm.trans ?_ (wV _ (List.Perm.of_eq (lV a.toList hc).symm))
  rw[vp,vp]
  exact we _ xG
 ·exact ha.sublist ((vK _ _).trans (vP _ _))
 ·obtain ⟨j,h1,h2,e⟩:=gw hq
  rcases uC.mp hp with r | r
  ·obtain ⟨i,hi,e2⟩:=aO r
   exact av ha e2 e (by lia)
  ·exact hb j q h1 h2 e p r
theorem MV.om {a b o:Array uK}{x y c:Nat}(m:MV key a b o x y)(hc:c<=y)(hb:b.toList.Pairwise (Le key))(ha:∀j p,c<=j->j<y->b.toList[j]? = some p->∀t∈a.toList.take x,Le key t p):MV key a b (o++(b.extract c y).reverse) x c:=by
 refine m.take (t:=(b.toList.take y).drop c) (by rw[vi,yc,xc,Af,lU _ _ _ m.hy]) m.hx (vc hc m.hy) ?_ ?_ λp hp q hq =>?_
 ·rw[vp, <- lV b.toList hc]
 ·exact hb.sublist ((vK _ _).trans (vP _ _))
 ·obtain ⟨j,h1,h2,e⟩:=gw hq
  rcases uC.mp hp with r | r
  ·exact ha j q h1 h2 e p r
  ·obtain ⟨i,hi,e2⟩:=aO r
   exact av hb e2 e (by lia)
theorem MV.mK {a b o:Array uK}{x y:Nat}(m:MV key a b o x y)(hb:b.toList.Pairwise (Le key))(hx:x=0):cH key a b (a.extract 0 x++b.extract 0 y++o.reverse):=by
 subst hx
 refine m.fin (t:=b.toList.take y) (by rw[vi,vi,dM,dM,xc,y8,yJ]) (by rw[y8,yJ]) (hb.sublist (vP _ _))
theorem MV.mJ {a b o:Array uK}{x y:Nat}(m:MV key a b o x y)(ha:a.toList.Pairwise (Le key))(hy:y=0):cH key a b (a.extract 0 x++b.extract 0 y++o.reverse):=by
 subst hy
 refine m.fin (t:=a.toList.take x) (by rw[vi,vi,dM,dM,xc,y8,vE]) (by rw[y8,vE]) (ha.sublist (vP _ _))
theorem MV.first {a b o:Array uK}{x y:Nat}(m:MV key a b o x y)(ha:a.toList.Pairwise (Le key))(hb:b.toList.Pairwise (Le key))(hy:y=1)(hl:∀p q,b[0]? = some p->q∈a.toList->Le key p q):cH key a b (b.extract 0 y++a.extract 0 x++o.reverse):=by
 refine m.fin (t:=b.toList.take y++a.toList.take x) (by rw[vi,vi,dM,dM,xc]) xG ?_
 refine vU.mpr ⟨hb.sublist (vP _ _),ha.sublist (vP _ _),λp hp q hq=>hl p q ?_ (xf hq)⟩
 obtain ⟨i,hi,e⟩:=aO hp
 rw[uz] at e
 rw[show i=0 by lia] at e
 exact e
theorem MV.size {a b o:Array uK}{x y:Nat}(m:MV key a b o x y):o.size+x+y=a.size+b.size:=by
 have e:=m.perm.length_eq
 have h1:=m.hx
 have h2:=m.hy
 simp only[uv,vx,uo,List.length_reverse] at e
 lia
end
open PySem PyProof.Rows
section
variable  {prog:uM}{w:vt}{A:vz}{E:ug->uj->Prop}{s:uj}{O:yW}{key:uK->O.α}{U:uK->Prop}{κ:SortKind}
abbrev HiC:=Option (Array uK)×Nat×Nat×Array uK×Nat×Nat×Nat
def pS (a b:Array uK)(x y:Nat)(o:Array uK)(mg ac bc:Nat):StateT vd Sem (ForInStep HiC):=do
  let z ← elem' a (x-1)
  if (x-1 == 0)=true then pure (.done (some (a.extract 0 (x-1)++b.extract 0 y++(o.push z).reverse),x-1,y,o.push z,mg,ac,bc))
  else if (decide (ac<7) && decide (bc<7))=true then pure (.done (none,x-1,y,o.push z,mg,ac,bc))
  else pure (.yield (none,x-1,y,o.push z,mg,ac,bc))
def pT (a b:Array uK)(x y:Nat)(o:Array uK)(mg ac bc:Nat):StateT vd Sem (ForInStep HiC):=do
  let z ← elem' b (y-1)
  if (y-1 == 1)=true then pure (.done (some (b.extract 0 (y-1)++a.extract 0 x++(o.push z).reverse),x,y-1,o.push z,mg,ac,bc))
  else do
    let z2 ← elem' a (x-1)
    let __x ← gal true z2 b 0 (y-1) (y-1-1)
    match __x with
    | some c =>
      if y-1-c>0 then
        if (c == 1)=true then pure (.done (some (b.extract 0 c++a.extract 0 x++(o.push z++(b.extract c (y-1)).reverse).reverse),x,c,o.push z++(b.extract c (y-1)).reverse,mg,ac,y-1-c))
        else if (c == 0)=true then pure (.done (some (a.extract 0 x++b.extract 0 c++(o.push z++(b.extract c (y-1)).reverse).reverse),x,c,o.push z++(b.extract c (y-1)).reverse,mg,ac,y-1-c))
        else pS a b x c (o.push z++(b.extract c (y-1)).reverse) mg ac (y-1-c)
      else pS a b x (y-1) (o.push z) mg ac (y-1-c)
    | _=>pure (.done (some (a.extract 0 x++b.extract 0 (y-1)++(o.push z).reverse),x,y-1,o.push z,mg,ac,bc))
def mO (a b:Array uK)(x y:Nat)(p:Array uK)(ac bc mg:Nat):StateT vd Sem (ForInStep HiC):=do
  modify (λs=>SortSt.mk' (kindOf s) (uT s) (va s) mg (failedOf s))
  let z ← elem' b (y-1)
  let __x ← gal false z a 0 x (x-1)
  match __x with
  | some c =>
    if x-c>0 then
      if (c == 0)=true then pure (.done (some (a.extract 0 c++b.extract 0 y++(p++(a.extract c x).reverse).reverse),c,y,p++(a.extract c x).reverse,mg,x-c,bc))
      else pT a b c y (p++(a.extract c x).reverse) mg (x-c) bc
    else pT a b x y p mg (x-c) bc
  | _=>pure (.done (some (a.extract 0 x++b.extract 0 y++p.reverse),x,y,p,mg,ac,bc))
def HiQ (key:uK->O.α)(a b:Array uK)(st:vd)(n:Nat)(r:ForInStep HiC)(st':vd):Prop:=match r with
 | .done c=>Sm st st'/\((∃r x y p mg ac bc,c=(some r,x,y,p,mg,ac,bc)/\cH key a b r)\/∃x y p mg ac bc,c=(none,x,y,p,mg,ac,bc)/\MV key a b p x y/\1<=x/\2<=y/\n<=p.size)
 | .yield c=>Sm st st'/\∃x y p mg ac bc,c=(none,x,y,p,mg,ac,bc)/\MV key a b p x y/\1<=x/\2<=y/\n<=p.size
theorem HiQ.out {a b:Array uK}{st st':vd}{n:Nat}{r:Array uK}{c:Nat×Nat×Array uK×Nat×Nat×Nat}(sm:Sm st st')(f:cH key a b r):HiQ key a b st n (.done (some r,c)) st':=by
 obtain ⟨p,x,y,mg,ac,bc⟩:=c
 exact ⟨sm,.inl ⟨_,_,_,_,_,_,_,rfl,f⟩⟩
theorem ot {x:Nat}(c:¬ (x == 0)=true):1<=x:=Nat.pos_of_ne_zero λz=>c (beq_iff_eq.mpr z)
theorem pU {y:Nat}(h:1<=y)(c:¬ (y == 1)=true):2<=y:=AD h λz=>c (beq_iff_eq.mpr z.symm)
theorem lW {a b:Array uK}{st st':vd}(hb:b.toList.Pairwise (Le key))
  {o:Array uK} {x y mg ac bc n:Nat} {za:uK} (sm:Sm st st') (ea:a[x-1]? = some za) (m4:MV key a b (o.push za) (x-1) y) (hy:2<=y) (hn:n<=o.size):wpS (vk prog w) A E s (pS a b x y o mg ac bc) (HiQ key a b st n) st':=by
 unfold pS
 refine uE (aL ea ?_)
 by_cases d5:(x-1 == 0)=true
 ·rw[if_pos d5]
  exact uN (HiQ.out sm (m4.mK hb (beq_iff_eq.mp d5)))
 rw[if_neg d5]
 have hx2:=ot d5
 have hn':n<=(o.push za).size:=by rw[xg];exact xM hn
 split
 ·exact uN ⟨sm,.inr ⟨_,_,_,_,_,_,rfl,m4,hx2,hy,hn'⟩⟩
 ·exact uN ⟨sm,_,_,_,_,_,_,rfl,m4,hx2,hy,hn'⟩
theorem lX (C:Cmp prog w A s O key U κ){a b:Array uK}{st st':vd}(hκ:kindOf st=κ)(ua:∀p∈a.toList,U p)(ub:∀p∈b.toList,U p)
  (ha:a.toList.Pairwise (Le key)) (hb:b.toList.Pairwise (Le key)) (h0:∀p q,b[0]? = some p->q∈a.toList->Le key p q)
  {o:Array uK} {x y mg ac bc n:Nat} {zb:uK} (sm:Sm st st') (eb:b[y-1]? = some zb) (mk:MV key a b o x y) (bl:∀t∈a.toList.take x,Le key t zb) (hx1:1<=x) (hy:2<=y) (hn:n<=o.size):wpS (vk prog w) A E s (pT a b x y o mg ac bc) (HiQ key a b st n) st':=by
 unfold pT
 refine uE (aL eb ?_)
 have m2:=mk.iJ (AV hy) eb hb bl
 have y1:1<=y-1:=wL hy
 have bx1:=mk.hx
 have by1:=mk.hy
 by_cases d3:(y-1 == 1)=true
 ·rw[if_pos d3]
  exact uN (HiQ.out sm (m2.first ha hb (beq_iff_eq.mp d3) h0))
 rw[if_neg d3]
 have hy1:=pU y1 d3
 obtain ⟨za,ea⟩:=aN (show x-1<a.size by lia)
 refine uE (aL ea ?_)
 refine uE (rV C (λi=>(b[i]?).getD za) (sm.k.trans hκ) (ua _ (bj ea)) (λi hi =>?_) (λi hi =>?_) (λi j hij hj =>?_) (yE y1) λc2 hc2 g1 g2 =>?_)
 ·obtain ⟨z,e⟩:=aN (show i<b.size by lia)
  rw[wY,e];rfl
 ·obtain ⟨z,e⟩:=aN (show i<b.size by lia)
  rw[e];exact ub _ (bj e)
 ·obtain ⟨z,e⟩:=aN (show i<b.size by lia)
  obtain ⟨z',e'⟩:=aN (show j<b.size by lia)
  rw[e,e'];exact av hb (au e) (au e') hij
 dsimp only at g1 g2 ⊢
 have tb:∀j q,c2<=j->j<y-1->b.toList[j]? = some q->∀t∈a.toList.take x,Le key t q:=λj q hj hj2 e t ht=>by
  have z:=g2 j hj hj2
  rw[uz] at e
  rw[e] at z
  obtain ⟨n,hn,e2⟩:=aO ht
  exact vo (av ha e2 (au ea) (wL hn)) z
 have m3:=m2.om hc2 hb tb
 have bl2:∀t∈b.toList.take c2,Le key t za:=λt ht=>by
  obtain ⟨n,hn,e2⟩:=aO ht
  rw[uz] at e2
  have z:=g1 n hn
  rw[e2] at z
  exact vQ z
 have hn1:n<=(o.push zb).size:=by rw[xg];exact xM hn
 by_cases k2:y-1-c2>0
 ·rw[if_pos k2]
  by_cases d4:(c2 == 1)=true
  ·rw[if_pos d4]
   exact uN (HiQ.out sm (m3.first ha hb (beq_iff_eq.mp d4) h0))
  rw[if_neg d4]
  by_cases d6:(c2 == 0)=true
  ·rw[if_pos d6]
   exact uN (HiQ.out sm (m3.mJ ha (beq_iff_eq.mp d6)))
  rw[if_neg d6]
  exact lW hb sm ea (m3.fR hx1 ea ha bl2) (pU (ot d6) d4) (vc hn1 (by rw[xN];exact wJ _ _))
 ·rw[if_neg k2]
  have ec2:c2=y-1:=yn hc2 (z0 (xB k2))
  rw[ec2] at bl2
  exact lW hb sm ea (m2.fR hx1 ea ha bl2) hy1 hn1
theorem lY (C:Cmp prog w A s O key U κ){a b:Array uK}{st st':vd}(hκ:kindOf st=κ)(ua:∀p∈a.toList,U p)(ub:∀p∈b.toList,U p)
  (ha:a.toList.Pairwise (Le key)) (hb:b.toList.Pairwise (Le key)) (h0:∀p q,b[0]? = some p->q∈a.toList->Le key p q)
  {p:Array uK} {x y ac bc n:Nat} (mg:Nat) (sm:Sm st st') (m:MV key a b p x y) (hx:1<=x) (hy:2<=y) (hn:n<=p.size):wpS (vk prog w) A E s (mO a b x y p ac bc mg) (HiQ key a b st n) st':=by
 unfold mO
 have bx:=m.hx
 have by':=m.hy
 obtain ⟨zb,eb⟩:=aN (show y-1<b.size by lia)
 refine uE (wQ ?_)
 refine uE (aL eb ?_)
 refine uE (rU C (λi=>(a[i]?).getD zb) ((sm.mg _).k.trans hκ) (ub _ (bj eb)) (λi hi =>?_) (λi hi =>?_) (λi j hij hj =>?_) (yE hx) λc hc h1 h2 =>?_)
 ·obtain ⟨z,e⟩:=aN (uG hi bx)
  rw[wY,e];rfl
 ·obtain ⟨z,e⟩:=aN (uG hi bx)
  rw[e];exact ua _ (bj e)
 ·obtain ⟨z,e⟩:=aN (show i<a.size by lia)
  obtain ⟨z',e'⟩:=aN (show j<a.size by lia)
  rw[e,e'];exact av ha (au e) (au e') hij
 dsimp only at h1 h2 ⊢
 have ta:∀j q,c<=j->j<x->a.toList[j]? = some q->∀t∈b.toList.take y,Le key t q:=λj q hj hj2 e t ht=>by
  have z:=h2 j hj hj2
  rw[uz] at e
  rw[e] at z
  obtain ⟨n,hn,e2⟩:=aO ht
  exact vo (av hb e2 (au eb) (wL hn)) (vQ z)
 have mk:=m.oj hc ha ta
 have bl:∀t∈a.toList.take c,Le key t zb:=λt ht=>by
  obtain ⟨n,hn,e2⟩:=aO ht
  rw[uz] at e2
  have z:=h1 n hn
  rw[e2] at z
  exact z
 by_cases k0:x-c>0
 ·rw[if_pos k0]
  by_cases d1:(c == 0)=true
  ·rw[if_pos d1]
   exact uN (HiQ.out (sm.mg _) (mk.mK hb (beq_iff_eq.mp d1)))
  rw[if_neg d1]
  exact lX C hκ ua ub ha hb h0 (sm.mg _) eb mk bl (ot d1) hy (vc hn (by rw[xN];exact wJ _ _))
 ·rw[if_neg k0]
  have ec:c=x:=yn hc (z0 (xB k0))
  rw[ec] at bl
  exact lX C hκ ua ub ha hb h0 (sm.mg _) eb m bl hx hy hn
theorem pV (C:Cmp prog w A s O key U κ){a b:Array uK}{st st':vd}(hκ:kindOf st=κ)(ua:∀p∈a.toList,U p)(ub:∀p∈b.toList,U p)
  (ha:a.toList.Pairwise (Le key)) (hb:b.toList.Pairwise (Le key)) (h0:∀p q,b[0]? = some p->q∈a.toList->Le key p q)
  {p:Array uK} {x y ac bc n mg:Nat} (sm:Sm st st') (m:MV key a b p x y) (hx:1<=x) (hy:2<=y) (hn:n<=p.size):wpS (vk prog w) A E s (if mg>1 then mO a b x y p ac bc (mg-1) else mO a b x y p ac bc mg) (HiQ key a b st n) st':=by
 split
 ·exact lY C hκ ua ub ha hb h0 (mg-1) sm m hx hy hn
 ·exact lY C hκ ua ub ha hb h0 mg sm m hx hy hn
abbrev HiD:=Option (Array uK)×Nat×Nat×Array uK×Nat×Nat
abbrev HiE:=Option (Array uK)×Nat×Nat×Array uK×Nat
def ou (a b:Array uK)(mg:Nat)(c:HiD):StateT vd Sem (ForInStep HiD):=do
  let u ← elem' b (c.2.2.1-1)
  let v ← elem' a (c.2.1-1)
  let __x ← lt' u v
  match __x with
  | some aw =>
    if aw=true then do
      let z ← elem' a (c.2.1-1)
      if (c.2.1-1 == 0)=true then pure (.done (some (a.extract 0 (c.2.1-1)++b.extract 0 c.2.2.1++(c.2.2.2.1.push z).reverse),c.2.1-1,c.2.2.1,c.2.2.2.1.push z,c.2.2.2.2.1+1,0))
      else if c.2.2.2.2.1+1≥mg then pure (.done (none,c.2.1-1,c.2.2.1,c.2.2.2.1.push z,c.2.2.2.2.1+1,0))
      else pure (.yield (none,c.2.1-1,c.2.2.1,c.2.2.2.1.push z,c.2.2.2.2.1+1,0))
    else do
      let z ← elem' b (c.2.2.1-1)
      if (c.2.2.1-1 == 1)=true then pure (.done (some (b.extract 0 (c.2.2.1-1)++a.extract 0 c.2.1++(c.2.2.2.1.push z).reverse),c.2.1,c.2.2.1-1,c.2.2.2.1.push z,0,c.2.2.2.2.2+1))
      else if c.2.2.2.2.2+1≥mg then pure (.done (none,c.2.1,c.2.2.1-1,c.2.2.2.1.push z,0,c.2.2.2.2.2+1))
      else pure (.yield (none,c.2.1,c.2.2.1-1,c.2.2.2.1.push z,0,c.2.2.2.2.2+1))
  | _=>pure (.done (some (a.extract 0 c.2.1++b.extract 0 c.2.2.1++c.2.2.2.1.reverse),c.2.1,c.2.2.1,c.2.2.2.1,c.2.2.2.2.1,c.2.2.2.2.2))
def rY (a b:Array uK)(c:HiC):StateT vd Sem (ForInStep HiC) :=
 if c.2.2.2.2.1>1 then mO a b c.2.1 c.2.2.1 c.2.2.2.1 c.2.2.2.2.2.1 c.2.2.2.2.2.2 (c.2.2.2.2.1-1) else mO a b c.2.1 c.2.2.1 c.2.2.2.1 c.2.2.2.2.2.1 c.2.2.2.2.2.2 c.2.2.2.2.1
def kM (a b:Array uK)(c:HiE):StateT vd Sem (ForInStep HiE):=do
  let d ← forIn [0:a.size+b.size] ((none,c.2.1,c.2.2.1,c.2.2.2.1,0,0):HiD) λ_ d=>ou a b c.2.2.2.2 d
  match d.1 with
  | some r=>pure (.done (some r,d.2.1,d.2.2.1,d.2.2.2.1,c.2.2.2.2))
  | none=>do
    rule "list.sort.gallop"
    let e ← forIn [0:a.size+b.size] ((none,d.2.1,d.2.2.1,d.2.2.2.1,c.2.2.2.2+1,d.2.2.2.2.1,d.2.2.2.2.2):HiC) λ_ e=>rY a b e
    match e.1 with
    | some r=>pure (.done (some r,e.2.1,e.2.2.1,e.2.2.2.1,e.2.2.2.2.1))
    | none=>do
      modify (λs=>SortSt.mk' (kindOf s) (uT s) (va s) (e.2.2.2.2.1+1) (failedOf s))
      pure (.yield (none,e.2.1,e.2.2.1,e.2.2.2.1,e.2.2.2.2.1+1))
theorem pW (a b:Array uK):mHi a b=(do
    rule "list.sort.merge-hi"
    let z ← elem' a (a.size-1)
    if (a.size-1 == 0)=true then pure (a.extract 0 (a.size-1)++b.extract 0 b.size++(#[z]:Array uK).reverse)
    else if (b.size == 1)=true then pure (b.extract 0 b.size++a.extract 0 (a.size-1)++(#[z]:Array uK).reverse)
    else do
      let g ← get
      let c ← forIn [0:a.size+b.size] ((none,a.size-1,b.size, #[z],gallopOf g):HiE) λ_ c=>kM a b c
      match c.1 with
      | some r=>pure r
      | none=>unsupported "internal:list.sort.merge-bound"):=by
  kernel_rfl
def HdI (key:uK->O.α)(a b:Array uK)(st:vd)(n:Nat)(c:HiD)(st':vd):Prop:=Sm st st'/\∃x y o' ac bc,c=(none,x,y,o',ac,bc)/\MV key a b o' x y/\1<=x/\2<=y/\n<=o'.size
def HdQ (key:uK->O.α)(a b:Array uK)(st:vd)(n:Nat)(c:HiD)(st':vd):Prop:=Sm st st'/\((∃r x y o ac bc,c=(some r,x,y,o,ac,bc)/\cH key a b r)\/∃x y o' ac bc,c=(none,x,y,o',ac,bc)/\MV key a b o' x y/\1<=x/\2<=y/\n<=o'.size)
theorem ow (C:Cmp prog w A s O key U κ){a b:Array uK}{st st':vd}(hκ:kindOf st=κ)(ua:∀p∈a.toList,U p)(ub:∀p∈b.toList,U p)
  (ha:a.toList.Pairwise (Le key)) (hb:b.toList.Pairwise (Le key)) (h0:∀p q,b[0]? = some p->q∈a.toList->Le key p q)
  {mg n m':Nat} {c:HiD} (I:HdI key a b st n c st') (hm:m'<=n+1) {Q:ForInStep HiD->vd->Prop} (h:∀r st',(match r with | .done c'=>HdQ key a b st (n+1) c' st' | .yield c'=>HdI key a b st m' c' st')->Q r st'):wpS (vk prog w) A E s (ou a b mg c) Q st':=by
 obtain ⟨sm2,x,y,o',ac,bc,rfl,m,hx,hy,hz⟩:=I
 unfold ou
 have bx:=m.hx
 have by':=m.hy
 obtain ⟨za,ea⟩:=aN (show x-1<a.size by omega)
 obtain ⟨zb,eb⟩:=aN (show y-1<b.size by omega)
 refine uE (aL eb (uE (aL ea (uE (C.lt _ st' zb za _ (sm2.k.trans hκ) (ub _ (bj eb)) (ua _ (bj ea)) ?_)))))
 dsimp only
 have sz:∀z,n+1<=(o'.push z).size:=λz=>by rw[xg];exact Bk hz
 cases hlt:O.blt (key zb) (key za) with
 | true =>
  rw[if_pos rfl]
  refine uE (aL ea ?_)
  have m1:=m.fR hx ea ha λt ht=>by
   obtain ⟨n,hn,e⟩:=aO ht
   exact vo (av hb e (au eb) (wL hn)) (vQ hlt)
  by_cases c3:(x-1 == 0)=true
  ·rw[if_pos c3]
   exact uN (h _ _ ⟨sm2,.inl ⟨_,_,_,_,_,_,rfl,m1.mK hb (beq_iff_eq.mp c3)⟩⟩)
  ·rw[if_neg c3]
   have c3':=ot c3
   split
   ·exact uN (h _ _ ⟨sm2,.inr ⟨_,_,_,_,_,rfl,m1,c3',hy,sz _⟩⟩)
   ·exact uN (h _ _ ⟨sm2,_,_,_,_,_,rfl,m1,c3',hy,vc hm (sz _)⟩)
 | false =>
  rw[if_neg uP]
  refine uE (aL eb ?_)
  have m1:=m.iJ (AV hy) eb hb λt ht=>by
   obtain ⟨n,hn,e⟩:=aO ht
   exact vo (av ha e (au ea) (wL hn)) (show O.kle (key za) (key zb) from hlt)
  by_cases c3:(y-1 == 1)=true
  ·rw[if_pos c3]
   exact uN (h _ _ ⟨sm2,.inl ⟨_,_,_,_,_,_,rfl,m1.first ha hb (beq_iff_eq.mp c3) h0⟩⟩)
  ·rw[if_neg c3]
   have c3':=pU (wL hy) c3
   split
   ·exact uN (h _ _ ⟨sm2,.inr ⟨_,_,_,_,_,rfl,m1,hx,c3',sz _⟩⟩)
   ·exact uN (h _ _ ⟨sm2,_,_,_,_,_,rfl,m1,hx,c3',vc hm (sz _)⟩)
def HeI (key:uK->O.α)(a b:Array uK)(st:vd)(n:Nat)(c:HiE)(st':vd):Prop:=Sm st st'/\∃x y o mg,c=(none,x,y,o,mg)/\MV key a b o x y/\1<=x/\2<=y/\n+1<=o.size
def HeQ (key:uK->O.α)(a b:Array uK)(st:vd)(c:HiE)(st':vd):Prop:=Sm st st'/\((∃r x y o mg,c=(some r,x,y,o,mg)/\cH key a b r)\/∃x y o mg,c=(none,x,y,o,mg)/\MV key a b o x y/\1<=x/\2<=y/\a.size+b.size+1<=o.size)
theorem mP (C:Cmp prog w A s O key U κ){a b:Array uK}{st st':vd}(hκ:kindOf st=κ)(ua:∀p∈a.toList,U p)(ub:∀p∈b.toList,U p)
  (ha:a.toList.Pairwise (Le key)) (hb:b.toList.Pairwise (Le key)) (h0:∀p q,b[0]? = some p->q∈a.toList->Le key p q) (na:0<a.size)
  {n:Nat} {c:HiE} (I:HeI key a b st n c st'):wpS (vk prog w) A E s (kM a b c) (λr st'=>match r with | .done c'=>HeQ key a b st c' st' | .yield c'=>HeI key a b st (n+1) c' st') st':=by
 obtain ⟨sm1,x,y,o,mg,rfl,m,hx,hy,hz⟩:=I
 unfold kM
 have q1:1<=a.size+b.size:=vc na (wJ _ _)
 refine uE (wC (vN (I:=λj c st'=>HdI key a b st (o.size+min j 1) c st') (Q:=HdQ key a b st (o.size+1)) (λj c st2 _ hj J=>ow (n:=o.size+min j 1) (m':=o.size+min (j+1) 1) C hκ ua ub ha hb h0 J (by lia) λr st' k =>?_) (λc st' J =>?_) ⟨sm1,x,y,o,0,0,rfl,m,hx,hy,ur _⟩) ?_)
 ·cases r with
  | done c'=>exact k.imp id λz=>z.imp id λ⟨x,y,o',ac,bc,e,m,hx,hy,hz⟩=>⟨x,y,o',ac,bc,e,m,hx,hy,by lia⟩
  | yield c'=>exact k
 ·obtain ⟨sm,x,y,o',ac,bc,e,m,hx,hy,hz⟩:=J
  exact ⟨sm,.inr ⟨x,y,o',ac,bc,e,m,hx,hy,by lia⟩⟩
 rintro c st2 ⟨sm2,⟨r,x,y,o',ac,bc,rfl,fr⟩ | ⟨x,y,o',ac,bc,rfl,m,hx,hy,hz2⟩⟩
 ·exact uN ⟨sm2,.inl ⟨_,_,_,_,_,rfl,fr⟩⟩
 dsimp only
 refine uE (Ac (yG ⟨rfl,?_⟩))
 refine uE (wC (vN (I:=λ_ c st'=>HiQ key a b st o'.size (.yield c) st') (Q:=λc st'=>HiQ key a b st o'.size (.done c) st') (λj c st3 _ hj J =>?_) (λc st' J=>⟨J.1,.inr J.2⟩) ⟨sm2,x,y,o',_,ac,bc,rfl,m,hx,hy,ur _⟩) ?_)
 ·obtain ⟨sm3,x,y,p,mg,ac,bc,rfl,m,hx,hy,hz3⟩:=J
  refine wC (pV C hκ ua ub ha hb h0 sm3 m hx hy hz3) ?_
  intro r st' h
  cases r <;> exact h
 rintro c st3 ⟨sm3,⟨r,x,y,p,mg,ac,bc,rfl,fr⟩ | ⟨x,y,p,mg,ac,bc,rfl,m,hx,hy,hz3⟩⟩
 ·exact uN ⟨sm3,.inl ⟨_,_,_,_,_,rfl,fr⟩⟩
 ·dsimp only
  exact uE (wQ (uN ⟨sm3.mg _,x,y,p,_,rfl,m,hx,hy,by lia⟩))
theorem rZ (C:Cmp prog w A s O key U κ){a b:Array uK}{st:vd}{Q:Array uK->vd->Prop}(hκ:kindOf st=κ)(ua:∀p∈a.toList,U p)(ub:∀p∈b.toList,U p)
  (ha:a.toList.Pairwise (Le key)) (hb:b.toList.Pairwise (Le key)) (na:0<a.size) (nb:0<b.size) (h0:∀p q,b[0]? = some p->q∈a.toList->Le key p q) (hl:∀p q,p∈b.toList->a[a.size-1]? = some q->Le key p q)
  (h:∀r st',Sm st st'->cH key a b r->Q r st'):wpS (vk prog w) A E s (mHi a b) Q st:=by
 rw[pW]
 refine uE (Ac (yG ⟨rfl,?_⟩))
 obtain ⟨a0,ea0⟩:=aN (yE na)
 have m0:MV key a b #[] a.size b.size:=by
  refine ⟨ur _,ur _,?_,List.Pairwise.nil,λp _ q hq=>by cases hq⟩
  rw[uI (by rw[uo];exact ur _),uI (by rw[uo];exact ur _)]
  show (a.toList++b.toList++[]).Perm _
  rw[vE]
 have m1:MV key a b #[a0] (a.size-1) b.size:=m0.fR na ea0 ha λt ht=>hl t a0 (xf ht) ea0
 refine uE (aL ea0 ?_)
 by_cases c1:(a.size-1 == 0)=true
 ·rw[if_pos c1]
  exact uN (h _ st (Sm.refl st) (m1.mK hb (beq_iff_eq.mp c1)))
 rw[if_neg c1]
 by_cases c2:(b.size == 1)=true
 ·rw[if_pos c2]
  exact uN (h _ st (Sm.refl st) (m1.first ha hb (beq_iff_eq.mp c2) h0))
 rw[if_neg c2]
 refine uE (zF ?_)
 refine uE (wC (vN (I:=λi c st'=>HeI key a b st i c st') (Q:=HeQ key a b st) (λi c st1 _ _ J=>wC (mP C hκ ua ub ha hb h0 na J) λr st' h=>by cases r <;> exact h) (λc st' J =>?_) ⟨Sm.refl st,_,_,_,_,rfl,m1,ot c1,pU nb c2,ur _⟩) ?_)
 ·obtain ⟨sm,x,y,o,mg,e,m,hx,hy,hz⟩:=J
  exact ⟨sm,.inr ⟨x,y,o,mg,e,m,hx,hy,by lia⟩⟩
 rintro c st' ⟨sm,⟨r,x,y,o,mg,rfl,fr⟩ | ⟨x,y,o,mg,rfl,m,hx,hy,hz⟩⟩
 ·exact uN (h r st' sm fr)
 ·have:=m.size
  lia
end
open PySem PyProof.Rows
theorem r6 (i:Nat):mAt i=(do
    let s ← get
    let (some (sa,na,pw),some (sb,nb,_)):=((va s)[i]?,(va s)[i+1]?) | unsupported "internal:list.sort.pending"
    set (SortSt.mk' (kindOf s) (uT s) (((va s).setIfInBounds i (sa,na+nb,pw)).eraseIdxIfInBounds (i+1)) (gallopOf s) (failedOf s))
    let some k ← gal false (← elem' (uT s) sb) (uT s) sa na 0 | return false
    let (sa,na):=(sa+k,na-k)
    if na == 0 then return true
    let some nb ← gal true (← elem' (uT s) (sa+na-1)) (uT s) sb nb (nb-1) | return false
    if nb == 0 then return true
    let x:=(uT s).extract sa sb
    let y:=(uT s).extract sb (sb+nb)
    let mm ← if na<=nb then mLo x y else mHi x y
    modify λs=>setArr s (mm.toList.zipIdx.foldl (λa (p,j)=>a.setIfInBounds (sa+j) p) (uT s))
    return (failedOf (← get)).isNone):=rfl
theorem eS {α:Type}(p r:List α)(k:Nat):(p++r).drop (p.length+k)=r.drop k:=by
 rw[<- BF,y9]
theorem kN {α:Type}(p r:List α)(k:Nat):(p++r)[p.length+k]? = r[k]? := by
 rw[wW (by lia),xt]
theorem qL {α:Type}(p a r:List α){k:Nat}(h:k<a.length):(p++(a++r))[p.length+k]? = a[k]? := by
 rw[kN,wA h]
theorem written (l:List uK):∀(c n:Nat) (a:Array uK),c+n+l.length<=a.size->((l.zipIdx n).foldl (λ(a:Array uK) (pj:uK×Nat)=>a.setIfInBounds (c+pj.2) pj.1) a).toList=a.toList.take (c+n)++l++a.toList.drop (c+n+l.length):=by
 induction l with
 | nil=>intro c n a _;simp
 | cons z l ih =>
  intro c n a h
  rw[vh] at h
  rw[List.zipIdx_cons,Bq,ih c (n+1) _ (by rw[zj];lia)]
  have e:(a.setIfInBounds (c+n) z).toList=a.toList.set (c+n) z:=yP ..
  rw[e]
  have lt:c+n<a.toList.length:=by rw[uo];lia
  have t1:(a.toList.set (c+n) z).take (c+(n+1))=a.toList.take (c+n)++[z]:=by
   rw[show c+(n+1)=c+n+1 by lia,vj,List.take_set_of_le (ur _),v8 lt]
   rfl
  have t2:(a.toList.set (c+n) z).drop (c+(n+1)+l.length)=a.toList.drop (c+n+(l.length+1)):=by
   rw[List.drop_set_of_lt (by lia),show c+(n+1)+l.length=c+n+(l.length+1) by lia]
  rw[t1,t2,vh]
  simp
section
variable  {prog:uM}{w:vt}{A:vz}{E:ug->uj->Prop}{s:uj}{O:yW}{key:uK->O.α}{U:uK->Prop}{κ:SortKind}
theorem r9 (C:Cmp prog w A s O key U κ){i pw pw2:Nat}{st:vd}{Q:Bool->vd->Prop}{P X Y S:List uK}(hκ:kindOf st=κ)(hf:failedOf st=none)
    (ha:(uT st).toList=P++(X++(Y++S))) (hu:∀p∈(uT st).toList,U p) (h1:(va st)[i]? = some (P.length,X.length,pw)) (h2:(va st)[i+1]? = some (P.length+X.length,Y.length,pw2))
    (nx:0<X.length) (ny:0<Y.length) (sx:X.Pairwise (Le key)) (sy:Y.Pairwise (Le key))
    (h:∀st' M,M.Perm (X++Y)->M.Pairwise (Le key)->(uT st').toList=P++(M++S)->va st'=((va st).setIfInBounds i (P.length,X.length+Y.length,pw)).eraseIdxIfInBounds (i+1)->kindOf st'=κ -> failedOf st'=none->Q true st') :
    wpS (vk prog w) A E s (mAt i) Q st:=by
  rw[r6]
  refine uE (zF ?_)
  rw[h1,h2]
  dsimp only
  refine uE (show wpS (vk prog w) A E s (modify λ_=>SortSt.mk' (kindOf st) (uT st) (((va st).setIfInBounds i (P.length,X.length+Y.length,pw)).eraseIdxIfInBounds (i+1)) (gallopOf st) (failedOf st)) _ st from wQ ?_)
  generalize hst1:SortSt.mk' (kindOf st) (uT st) (((va st).setIfInBounds i (P.length,X.length+Y.length,pw)).eraseIdxIfInBounds (i+1)) (gallopOf st) (failedOf st)=st1
  have k1:kindOf st1=κ:=by rw[<- hst1];exact hκ
  have a1:uT st1=uT st:=by rw[<- hst1]
  have p1:va st1=((va st).setIfInBounds i (P.length,X.length+Y.length,pw)).eraseIdxIfInBounds (i+1):=by rw[<- hst1]
  have f1:failedOf st1=none:=by rw[<- hst1];exact hf
  have sz:(uT st).size=P.length+X.length+Y.length+S.length:=by
    rw[<- uo,ha];simp only[uv];lia
  have atX:∀j,j<X.length->(uT st)[P.length+j]? = X[j]? := λj hj=>by
    rw[<- uz,ha,qL _ _ _ hj]
  have atY:∀j,j<Y.length->(uT st)[P.length+X.length+j]? = Y[j]? := λj hj=>by
    rw[<- uz,ha, <- vp,show P.length+X.length+j=(P++X).length+j by rw[uv],qL _ _ _ hj]
  have uX:∀p∈X,U p:=λp hp=>hu p (by rw[ha];simp[hp])
  have uY:∀p∈Y,U p:=λp hp=>hu p (by rw[ha];simp[hp])
  have xget:∀j,j<X.length->∃z,X[j]? = some z:=λj hj=>⟨X[j],by simp[hj]⟩
  have yget:∀j,j<Y.length->∃z,Y[j]? = some z:=λj hj=>⟨Y[j],by simp[hj]⟩
  obtain ⟨y0,ey0⟩:=yget 0 ny
  have plain:(∀p∈X,∀q∈Y,Le key p q)->Q true st1:=λhle=>h st1 (X++Y) (xX _) (vU.mpr ⟨sx,sy,hle⟩) (by rw[a1,ha,vp]) p1 k1 f1
  refine uE (aL (z:=y0) (by rw[show P.length+X.length=P.length+X.length+0 by lia,atY 0 ny];exact ey0) ?_)
  refine uE (rU C (λj=>(X[j]?).getD y0) k1 (uY _ (uS ey0)) (λj hj =>?_) (λj hj =>?_) (λi j hij hj =>?_) nx λk hk g1 g2 =>?_)
  · obtain ⟨z,e⟩:=xget j hj
    rw[atX j hj,e];rfl
  · obtain ⟨z,e⟩:=xget j hj
    rw[e];exact uX _ (uS e)
  · obtain ⟨z,e⟩:=xget i (by lia)
    obtain ⟨z',e'⟩:=xget j hj
    rw[e,e'];exact av sx e e' hij
  dsimp only at g1 g2 ⊢
  have y0le:∀q∈Y,Le key y0 q:=λq hq=>by
    obtain ⟨n,e⟩:=vf.mp hq
    exact av sy ey0 e (vv _)
  by_cases c1:(X.length-k == 0)=true
  · rw[if_pos c1]
    refine uN (plain λp hp q hq =>?_)
    obtain ⟨n,e⟩:=vf.mp hp
    have hn:n<X.length:=(um.mp e).1
    have z:=g1 n (by have:=beq_iff_eq.mp c1;lia)
    rw[e] at z
    exact vo z (y0le q hq)
  rw[if_neg c1]
  have kx:k<X.length:=by have:X.length-k≠0:=λz=>c1 (beq_iff_eq.mpr z);lia
  obtain ⟨xl,exl⟩:=xget (X.length-1) (by lia)
  have xlle:∀p∈X,Le key p xl:=λp hp=>by
    obtain ⟨n,e⟩:=vf.mp hp
    have hn:n<X.length:=(um.mp e).1
    exact av sx e exl (by lia)
  refine uE (aL (z:=xl) (by rw[show P.length+k+(X.length-k)-1=P.length+(X.length-1) by lia,atX _ (by lia)];exact exl) ?_)
  refine uE (rV C (λj=>(Y[j]?).getD xl) k1 (uX _ (uS exl)) (λj hj =>?_) (λj hj =>?_) (λi j hij hj =>?_) (by lia) λm hm e1 e2 =>?_)
  · obtain ⟨z,e⟩:=yget j hj
    rw[atY j hj,e];rfl
  · obtain ⟨z,e⟩:=yget j hj
    rw[e];exact uY _ (uS e)
  · obtain ⟨z,e⟩:=yget i (by lia)
    obtain ⟨z',e'⟩:=yget j hj
    rw[e,e'];exact av sy e e' hij
  dsimp only at e1 e2 ⊢
  by_cases c2:(m == 0)=true
  · rw[if_pos c2]
    refine uN (plain λp hp q hq =>?_)
    obtain ⟨n,e⟩:=vf.mp hq
    have hn:n<Y.length:=(um.mp e).1
    have z:=e2 n (by have:=beq_iff_eq.mp c2;lia) hn
    rw[e] at z
    exact vo (xlle p hp) z
  rw[if_neg c2]
  have m0:0<m:=by have:m≠0:=λz=>c2 (beq_iff_eq.mpr z);lia
  have ex:((uT st).extract (P.length+k) (P.length+X.length)).toList=X.drop k:=by
    rw[v7,vH,ha,eS,yz (by lia)]
    rw[List.take_left' (by rw[wI];lia)]
  have ey:((uT st).extract (P.length+X.length) (P.length+X.length+m)).toList=Y.take m:=by
    have e:=eS (P++X) (Y++S) 0
    rw[uv,Nat.add_zero,y7,vp] at e
    rw[v7,vH,ha,e,xt,wc hm]
  have sX:((uT st).extract (P.length+k) (P.length+X.length)).size=X.length-k:=by rw[<- uo,ex,wI]
  have sY:((uT st).extract (P.length+X.length) (P.length+X.length+m)).size=m:=by rw[<- uo,ey,vx];lia
  generalize (uT st).extract (P.length+k) (P.length+X.length)=xa at ex sX ⊢
  generalize (uT st).extract (P.length+X.length) (P.length+X.length+m)=ya at ey sY ⊢
  have xa0:∀q∈xa.toList,Le key y0 q:=λq hq=>by
    rw[ex] at hq
    obtain ⟨n,hn,e⟩:=aK hq
    have hn2:n<X.length:=(um.mp e).1
    have z:=g2 n hn hn2
    rw[e] at z
    exact vQ z
  have yaL:∀p∈ya.toList,Le key p xl:=λp hp=>by
    rw[ey] at hp
    obtain ⟨n,hn,e⟩:=aO hp
    have z:=e1 n hn
    rw[e] at z
    exact vQ z
  have first:∀p q,ya[0]? = some p->q∈xa.toList->Le key p q:=λp q hp hq=>by
    rw[<- uz,ey,wm,if_pos m0,ey0] at hp
    cases hp
    exact xa0 q hq
  have lst:∀p q,p∈ya.toList->xa[xa.size-1]? = some q->Le key p q:=λp q hp hq=>by
    rw[<- uz,ex,wF,sX,show k+(X.length-k-1)=X.length-1 by lia,exl] at hq
    cases hq
    exact yaL p hp
  have sxa:xa.toList.Pairwise (Le key):=by rw[ex];exact sx.sublist (vK _ _)
  have sya:ya.toList.Pairwise (Le key):=by rw[ey];exact sy.sublist (vP _ _)
  have uxa:∀p∈xa.toList,U p:=λp hp=>by rw[ex] at hp;exact uX p (xU hp)
  have uya:∀p∈ya.toList,U p:=λp hp=>by rw[ey] at hp;exact uY p (xf hp)
  have post:∀r st',Sm st1 st'->cH key xa ya r->wpS (vk prog w) A E s (do modify λs=>setArr s (r.toList.zipIdx.foldl (λa (p,j)=>a.setIfInBounds (P.length+k+j) p) (uT s));return (failedOf (← get)).isNone) Q st':=by
    rintro r st' sm ⟨fp,fs⟩
    refine uE (wQ (uE (zF (uN ?_))))
    have rl:r.toList.length=X.length-k+m:=by rw[fp.length_eq,uv,uo,uo,sX,sY]
    have wr:=written r.toList (P.length+k) 0 (uT st') (by rw[sm.a,a1,sz,rl];lia)
    have e:(failedOf (setArr st' (r.toList.zipIdx.foldl (λa (p,j)=>a.setIfInBounds (P.length+k+j) p) (uT st')))).isNone=true:=by
      show (failedOf st').isNone=true
      rw[sm.f,f1];rfl
    rw[e]
    have t1:(P++(X++(Y++S))).take (P.length+k+0)=P++X.take k:=by
      rw[Nat.add_zero,List.take_append,uI (by lia),xt,wc (by lia)]
    have t2:(P++(X++(Y++S))).drop (P.length+k+0+r.toList.length)=Y.drop m++S:=by
      rw[rl,show P.length+k+0+(X.length-k+m)=P.length+(X.length+m) by lia,eS,eS,yz hm]
    have perm:(X.take k++(r.toList++Y.drop m)).Perm (X++Y):=by
      rw[ex,ey] at fp
      have q:(X.take k++(r.toList++Y.drop m)).Perm (X.take k++((X.drop k++Y.take m)++Y.drop m)):=we _ (wV _ fp)
      have e3:X.take k++((X.drop k++Y.take m)++Y.drop m)=X++Y:=by
        rw[vp (X.drop k),wg, <- vp,wg]
      rw[e3] at q
      exact q
    have inr:∀z∈r.toList,z∈X.drop k\/z∈Y.take m:=λz hz=>by
      have q:=fp.mem_iff.mp hz
      rw[ex,ey] at q
      exact uC.mp q
    refine h _ (X.take k++(r.toList++Y.drop m)) perm ?_ ?_ ?_ (sm.k.trans k1) (sm.f.trans f1)
    · refine vU.mpr ⟨sx.sublist (vP _ _),vU.mpr ⟨fs,sy.sublist (vK _ _),λp hp q hq =>?_⟩,λp hp q hq =>?_⟩
      · obtain ⟨n,hn,en⟩:=aK hq
        have hn2:n<Y.length:=(um.mp en).1
        rcases inr p hp with z | z
        · have g:=e2 n hn hn2
          rw[en] at g
          exact vo (xlle p (xU z)) g
        · obtain ⟨j,hj,ej⟩:=aO z
          exact av sy ej en (by lia)
      · obtain ⟨n,hn,en⟩:=aO hp
        have g:=g1 n hn
        rw[en] at g
        rcases uC.mp hq with z | z
        · rcases inr q z with z | z
          · obtain ⟨j,hj,ej⟩:=aK z
            exact av sx en ej (by lia)
          · exact vo g (y0le q (xf z))
        · exact vo g (y0le q (xU z))
    · show (r.toList.zipIdx.foldl (λa (p,j)=>a.setIfInBounds (P.length+k+j) p) (uT st')).toList=_
      rw[wr,sm.a,a1,ha,t1,t2]
      simp only[vp]
    · show va st'=_
      rw[sm.p,p1]
  by_cases c3:X.length-k<=m
  · rw[if_pos c3]
    exact uE (rX C k1 uxa uya sxa sya (by lia) (by lia) (λp q hp hq=>first p q hp (bj hq)) lst λr st' sm fr=>post r st' sm fr)
  · rw[if_neg c3]
    exact uE (rZ C k1 uxa uya sxa sya (by lia) (by lia) first lst λr st' sm fr=>post r st' sm fr)
end
open PySem PyProof.Rows
theorem pX (lo m:Nat):rS lo m=(do
    let mut n:=1
    for _ in [1:m] do
      let some sm ← ltAt' (lo+n) (lo+n-1)
        | return none
      if sm then break
      n:=n+1
    if n == m then return some n
    if n>1 then
      let some ro ← ltAt' lo (lo+n-1)
        | return none
      if ro then return some n
      reverseSlice' lo (lo+n)
    rule "list.sort.descending-run"
    n:=n+1
    let mut q:=0
    for _ in [n:m] do
      let some sm ← ltAt' (lo+n) (lo+n-1)
        | return none
      if sm then
        if q>0 then reverseSlice' (lo+n-(q+1)) (lo+n)
        q:=0
      else
        let some lg ← ltAt' (lo+n-1) (lo+n)
          | return none
        if lg then break
        q:=q+1
      n:=n+1
    if q>0 then reverseSlice' (lo+n-(q+1)) (lo+n)
    reverseSlice' lo (lo+n)
    for _ in [n:m] do
      let some sm ← ltAt' (lo+n) (lo+n-1)
        | return none
      if sm then break
      n:=n+1
    return some n):=rfl
theorem ox (lo n ok:Nat):oh lo n ok=(do
    for k in [max ok 1:n] do
      let mut l:=0;let mut r:=k
      for _ in [0:k] do
        if l≥r then break
        let m:=(l+r)/2
        let some le ← ltAt' (lo+k) (lo+m)
          | return false
        if le then r:=m else l:=m+1
      moveDown' (lo+k) (lo+l)
    return true):=rfl
section
variable  {O:yW}(key:uK->O.α)
def kk (xs:Array uK)(i:Nat):O.α:=key ((xs[i]?).getD (xA,xA))
def Up (xs:Array uK)(lo n:Nat):Prop:=∀i j,lo<=i->i<=j->j<lo+n->O.kle (kk key xs i) (kk key xs j)
def Down (xs:Array uK)(lo n:Nat):Prop:=∀i j,lo<=i->i<=j->j<lo+n->O.kle (kk key xs j) (kk key xs i)
variable  {key}
theorem eU {xs ys:Array uK}{i j:Nat}(h:xs[i]? = ys[j]?):kk key xs i=kk key ys j:=by unfold kk;rw[h]
theorem iL {xs:Array uK}{i j:Nat}(hj:j<=xs.size)(k:Nat):kk key (mirror xs i j ((j-i)/2)) k=if i<=k/\k<j then kk key xs (i+j-1-k) else kk key xs k:=by
 have e:=Au (i:=i) hj k
 by_cases h:i<=k/\k<j
 ·rw[if_pos h] at e ⊢;exact eU e
 ·rw[if_neg h] at e ⊢;exact eU e
theorem cZ {xs:Array uK}{i j:Nat}(hj:j<=xs.size)(he:∀k,i<=k->k<j->kk key xs k=kk key xs (j-1))(k:Nat):kk key (mirror xs i j ((j-i)/2)) k=kk key xs k:=by
 rw[iL hj]
 split
 ·rw[he _ (by omega) (by omega),he k (by omega) (by omega)]
 ·rfl
end
structure SA (lo:Nat)(st st':vd):Prop where
 perm:(uT st').Perm (uT st)
 pre:∀k,k<lo->(uT st')[k]? = (uT st)[k]?
 k:kindOf st'=kindOf st
 p:va st'=va st
 f:failedOf st'=failedOf st
theorem SA.refl (lo:Nat)(st:vd):SA lo st st:=⟨Array.Perm.refl _,λ_ _=>rfl,rfl,rfl,rfl⟩
theorem SA.size {lo:Nat}{st st':vd}(h:SA lo st st'):(uT st').size=(uT st).size:=h.perm.size_eq
theorem SA.mirror {lo:Nat}{st st':vd}(h:SA lo st st'){i j:Nat}(hi:lo<=i)(hj:j<=(uT st').size):SA lo st (setArr st' (mirror (uT st') i j ((j-i)/2))) :=
 ⟨(mirror_perm _ _ _ _).trans h.perm,λk hk=>by
  show (PyProof.Rows.mirror (uT st') i j ((j-i)/2))[k]? = _
  rw[Au hj,if_neg (by lia)]
  exact h.pre k hk,h.k,h.p,h.f⟩
theorem SA.mem {lo:Nat}{st st':vd}(h:SA lo st st'){p:uK}(hp:p∈(uT st').toList):p∈(uT st).toList:=(yQ.mp h.perm).mem_iff.mp hp
section
variable  {prog:uM}{w:vt}{A:vz}{E:ug->uj->Prop}{s:uj}{O:yW}{key:uK->O.α}{U:uK->Prop}{κ:SortKind}
theorem dN (C:Cmp prog w A s O key U κ){st:vd}{i j:Nat}{Q:Option Bool->vd->Prop}(hκ:kindOf st=κ)(hu:∀p∈(uT st).toList,U p)(hi:i<(uT st).size)(hj:j<(uT st).size)
  (h:Q (some (O.blt (kk key (uT st) i) (kk key (uT st) j))) st):wpS (vk prog w) A E s (ltAt' i j) Q st:=by
 rw[ltAt'_eq]
 refine uE (zF ?_)
 obtain ⟨x,ex⟩:=aN hi
 obtain ⟨y,ey⟩:=aN hj
 dsimp only
 refine uE (aL ex (uE (aL ey (C.lt _ st x y _ hκ (hu _ (bj ex)) (hu _ (bj ey)) ?_))))
 unfold kk at h
 rw[ex,ey] at h
 exact h
theorem pY (C:Cmp prog w A s O key U κ){st:vd}{lo m:Nat}{Q:Option Nat->vd->Prop}(hκ:kindOf st=κ)(hu:∀p∈(uT st).toList,U p)(hm:1<=m)(hz:lo+m=(uT st).size)
  (h:∀n st',1<=n->n<=m->SA lo st st'->Up key (uT st') lo n->Q (some n) st'):wpS (vk prog w) A E s (rS lo m) Q st:=by
 rw[pX]
 dsimp only
 refine uE (wC (vN (I:=λx c st'=>st=st'/\c=(none,x)/\Up key (uT st) lo x)
  (Q:=λc st'=>st=st'/\∃n,c=(none,n)/\1<=n/\n<=m/\Up key (uT st) lo n/\(n<m->O.klt (kk key (uT st) (lo+n)) (kk key (uT st) (lo+n-1)))) ?step ?fin ⟨rfl,rfl,λi j h1 h2 h3=>by rw[show i=j by lia];exact wk _⟩) ?post)
 case fin =>
  rintro c st' ⟨rfl,rfl,up⟩
  exact ⟨rfl,_,rfl,by lia,by lia,by rw[show max 1 m=m by lia] at up ⊢;exact up,by lia⟩
 case step =>
  rintro x c st' h1 h2 ⟨rfl,rfl,up⟩
  dsimp only
  refine uE (dN C hκ hu (by lia) (by lia) ?_)
  dsimp only
  cases hb:O.blt (kk key (uT st) (lo+x)) (kk key (uT st) (lo+x-1)) with
  | true =>
   rw[if_pos rfl]
   exact uN ⟨rfl,x,rfl,h1,by lia,up,λ_=>hb⟩
  | false =>
   rw[if_neg (by simp)]
   refine uN ⟨rfl,rfl,λi j k1 k2 k3 =>?_⟩
   by_cases hj:j=lo+x
   ·by_cases hi:i=j
    ·rw[hi];exact wk _
    ·rw[hj]
     exact vo (up i (lo+x-1) k1 (by lia) (by lia)) hb
   ·exact up i j k1 k2 (by lia)
 case post =>
  rintro c st' ⟨rfl,n,rfl,n1,n2,up,br⟩
  dsimp only
  by_cases c1:(n == m)=true
  ·rw[if_pos c1]
   exact uN (h n st n1 n2 (SA.refl _ _) up)
  rw[if_neg c1]
  have nm:n<m:=by have:n≠m:=λz=>c1 (beq_iff_eq.mpr z);lia
  have br:=br nm
  by_cases c2:n>1
  case' pos =>
   rw[if_pos c2]
   refine uE (dN C hκ hu (by lia) (by lia) ?_)
   dsimp only
   cases hro:O.blt (kk key (uT st) lo) (kk key (uT st) (lo+n-1))
   case' true =>
    rw[if_pos rfl]
    exact uN (h n st n1 n2 (SA.refl _ _) up)
   rw[if_neg (by simp)]
   have eqs:∀k,lo<=k->k<lo+n->kk key (uT st) k=kk key (uT st) (lo+n-1):=λk k1 k2 =>
    An (up k (lo+n-1) k1 (by lia) (by lia)) (vo (show O.kle (kk key (uT st) (lo+n-1)) (kk key (uT st) lo) from hro) (up lo k (ur _) k1 k2))
   rw[yC]
   refine uE (wQ ?_)
   have sa:=(SA.refl lo st).mirror (i:=lo) (j:=lo+n) (ur _) (by lia)
   have ke:=cZ (key:=key) (xs:=uT st) (i:=lo) (j:=lo+n) (by lia) eqs
   have ka:∀k,kk key (uT (setArr st (mirror (uT st) lo (lo+n) ((lo+n-lo)/2)))) k=kk key (uT st) k:=ke
   generalize setArr st (mirror (uT st) lo (lo+n) ((lo+n-lo)/2))=st1 at sa ka ⊢
   clear ke
  case' neg =>
   rw[if_neg c2]
   have eqs:∀k,lo<=k->k<lo+n->kk key (uT st) k=kk key (uT st) (lo+n-1):=λk k1 k2=>by rw[show k=lo+n-1 by lia]
   obtain ⟨st1,e1⟩:∃st1,st1=st:=⟨_,rfl⟩
   have sa:SA lo st st1:=by rw[e1];exact SA.refl _ _
   have ka:∀k,kk key (uT st1) k=kk key (uT st) k:=λk=>by rw[e1]
   rw[<- e1]
   clear e1
  all_goals
   refine uE (Ac (yG ⟨rfl,?_⟩))
   have dn:Down key (uT st1) lo (n+1):=λi j k1 k2 k3=>by
    rw[ka,ka]
    by_cases hj:j=lo+n
    ·by_cases hi:i=j
     ·rw[hi];exact wk _
     ·rw[hj,eqs i k1 (by lia)]
      exact vQ br
    ·rw[eqs i k1 (by lia),eqs j (by lia) (by lia)]
     exact wk _
   clear eqs up br ka
   refine uE (wC (vN (I:=λx c st'=>∃q,c=(none,x,q)/\x<=m/\SA lo st st'/\Down key (uT st') lo x/\q+1<=x/\∀k,lo+x-(q+1)<=k->k<lo+x->kk key (uT st') k=kk key (uT st') (lo+x-1))
    (Q:=λc st'=>∃x q,c=(none,x,q)/\1<=x/\x<=m/\SA lo st st'/\Down key (uT st') lo x/\q+1<=x/\∀k,lo+x-(q+1)<=k->k<lo+x->kk key (uT st') k=kk key (uT st') (lo+x-1)) ?step ?fin
    ⟨0,rfl,by lia,sa,dn,by lia,λk k1 k2=>by rw[show k=lo+(n+1)-1 by lia]⟩) ?post)
   case fin =>
    rintro c st' ⟨q,rfl,xm,sa,dn,hq,he⟩
    exact ⟨_,q,rfl,by lia,xm,sa,dn,hq,he⟩
   case step =>
    rintro x c st2 h1 h2 ⟨q,rfl,xm,sa2,dn2,hq,he⟩
    dsimp only
    have sz:=sa2.size
    have u2:∀p∈(uT st2).toList,U p:=λp hp=>hu p (sa2.mem hp)
    refine uE (dN C (sa2.k.trans hκ) u2 (by lia) (by lia) ?_)
    dsimp only
    cases hb:O.blt (kk key (uT st2) (lo+x)) (kk key (uT st2) (lo+x-1)) with
    | true =>
     rw[if_pos rfl]
     have dn3:Down key (uT st2) lo (x+1):=λi j k1 k2 k3=>by
      by_cases hj:j=lo+x
      ·by_cases hi:i=j
       ·rw[hi];exact wk _
       ·rw[hj];exact vo (vQ hb) (dn2 i (lo+x-1) k1 (by lia) (by lia))
      ·exact dn2 i j k1 k2 (by lia)
     by_cases q0:q>0
     ·rw[if_pos q0,yC]
      refine uE (wQ (uN ?_))
      have ke:=cZ (key:=key) (xs:=uT st2) (i:=lo+x-(q+1)) (j:=lo+x) (by lia) he
      refine ⟨0,rfl,by lia,sa2.mirror (by lia) (by lia),λi j k1 k2 k3 =>?_,by lia,λk k1 k2=>by rw[show k=lo+(x+1)-1 by lia]⟩
      show O.kle (kk key (mirror (uT st2) (lo+x-(q+1)) (lo+x) ((lo+x-(lo+x-(q+1)))/2)) j) (kk key (mirror (uT st2) (lo+x-(q+1)) (lo+x) ((lo+x-(lo+x-(q+1)))/2)) i)
      rw[ke,ke]
      exact dn3 i j k1 k2 k3
     ·rw[if_neg q0]
      exact uN ⟨0,rfl,by lia,sa2,dn3,by lia,λk k1 k2=>by rw[show k=lo+(x+1)-1 by lia]⟩
    | false =>
     rw[if_neg (by simp)]
     refine uE (dN C (sa2.k.trans hκ) u2 (by lia) (by lia) ?_)
     dsimp only
     cases hb2:O.blt (kk key (uT st2) (lo+x-1)) (kk key (uT st2) (lo+x)) with
     | true =>
      rw[if_pos rfl]
      exact uN ⟨x,q,rfl,by lia,xm,sa2,dn2,hq,he⟩
     | false =>
      rw[if_neg (by simp)]
      have eq:=An (show O.kle (kk key (uT st2) (lo+x)) (kk key (uT st2) (lo+x-1)) from hb2) hb
      refine uN ⟨q+1,rfl,by lia,sa2,λi j k1 k2 k3 =>?_,by lia,λk k1 k2 =>?_⟩
      ·by_cases hj:j=lo+x
       ·by_cases hi:i=j
        ·rw[hi];exact wk _
        ·rw[hj,eq];exact dn2 i (lo+x-1) k1 (by lia) (by lia)
       ·exact dn2 i j k1 k2 (by lia)
      ·rw[show lo+(x+1)-1=lo+x by lia,eq]
       by_cases hk:k=lo+x
       ·rw[hk,eq]
       ·exact he k (by lia) (by lia)
   case post =>
    rintro c st2 ⟨x,q,rfl,x1,xm,sa2,dn2,hq,he⟩
    dsimp only
    have sz:=sa2.size
    by_cases q0:q>0
    case' pos =>
     rw[if_pos q0,yC]
     refine uE (wQ ?_)
     have ke:=cZ (key:=key) (xs:=uT st2) (i:=lo+x-(q+1)) (j:=lo+x) (by lia) he
     have sa3:=sa2.mirror (i:=lo+x-(q+1)) (j:=lo+x) (by lia) (by lia)
     have dn3:Down key (uT (setArr st2 (mirror (uT st2) (lo+x-(q+1)) (lo+x) ((lo+x-(lo+x-(q+1)))/2)))) lo x:=λi j k1 k2 k3=>by
      show O.kle (kk key (mirror (uT st2) (lo+x-(q+1)) (lo+x) ((lo+x-(lo+x-(q+1)))/2)) j) (kk key (mirror (uT st2) (lo+x-(q+1)) (lo+x) ((lo+x-(lo+x-(q+1)))/2)) i)
      rw[ke,ke]
      exact dn2 i j k1 k2 k3
     generalize setArr st2 (mirror (uT st2) (lo+x-(q+1)) (lo+x) ((lo+x-(lo+x-(q+1)))/2))=st3 at sa3 dn3 ⊢
     clear ke
    case' neg =>
     rw[if_neg q0]
     obtain ⟨st3,e3⟩:∃st3,st3=st2:=⟨_,rfl⟩
     have sa3:SA lo st st3:=by rw[e3];exact sa2
     have dn3:Down key (uT st3) lo x:=by rw[e3];exact dn2
     rw[<- e3]
     clear e3
    all_goals
     rw[yC]
     refine uE (wQ ?_)
     have sz3:=sa3.size
     have sa4:=sa3.mirror (i:=lo) (j:=lo+x) (ur _) (by lia)
     have km:=iL (key:=key) (xs:=uT st3) (i:=lo) (j:=lo+x) (by lia)
     have up4:Up key (uT (setArr st3 (mirror (uT st3) lo (lo+x) ((lo+x-lo)/2)))) lo x:=λi j k1 k2 k3=>by
      show O.kle (kk key (mirror (uT st3) lo (lo+x) ((lo+x-lo)/2)) i) (kk key (mirror (uT st3) lo (lo+x) ((lo+x-lo)/2)) j)
      rw[km,km,if_pos ⟨by lia,by lia⟩,if_pos ⟨by lia,by lia⟩]
      exact dn3 _ _ (by lia) (by lia) (by lia)
     generalize setArr st3 (mirror (uT st3) lo (lo+x) ((lo+x-lo)/2))=st4 at sa4 up4 ⊢
     clear km
     have u4:∀p∈(uT st4).toList,U p:=λp hp=>hu p (sa4.mem hp)
     have sz4:=sa4.size
     refine uE (wC (vN (I:=λz c st'=>st4=st'/\c=(none,z)/\z<=m/\Up key (uT st4) lo z)
      (Q:=λc st'=>st4=st'/\∃z,c=(none,z)/\1<=z/\z<=m/\Up key (uT st4) lo z) ?step ?fin ⟨rfl,rfl,xm,up4⟩) ?post)
     case fin =>
      rintro c st' ⟨rfl,rfl,zm,up⟩
      exact ⟨rfl,_,rfl,by lia,zm,up⟩
     case post =>
      rintro c st' ⟨rfl,z,rfl,z1,zm,up⟩
      exact uN (h z st4 z1 zm sa4 up)
     case step =>
      rintro z c st' h1 h2 ⟨rfl,rfl,zm,up⟩
      dsimp only
      refine uE (dN C (sa4.k.trans hκ) u4 (by lia) (by lia) ?_)
      dsimp only
      cases hb:O.blt (kk key (uT st4) (lo+z)) (kk key (uT st4) (lo+z-1)) with
      | true =>
       rw[if_pos rfl]
       exact uN ⟨rfl,z,rfl,by lia,zm,up⟩
      | false =>
       rw[if_neg (by simp)]
       refine uN ⟨rfl,rfl,by lia,λi j k1 k2 k3 =>?_⟩
       by_cases hj:j=lo+z
       ·by_cases hi:i=j
        ·rw[hi];exact wk _
        ·rw[hj];exact vo (up i (lo+z-1) k1 (by lia) (by lia)) hb
       ·exact up i j k1 k2 (by lia)
theorem iM {xs:Array uK}{src d:Nat}(hs:src<xs.size)(hd:d<=src)(k:Nat) :
  kk key (bubble xs src d) k=if k=src-d then kk key xs src else if src-d<k/\k<=src then kk key xs (k-1) else kk key xs k:=by
 have e:=getElem?_bubble hs d hd k
 by_cases h1:k=src-d
 ·rw[if_pos h1] at e ⊢;exact eU e
 ·rw[if_neg h1] at e ⊢
  by_cases h2:src-d<k/\k<=src
  ·rw[if_pos h2] at e ⊢;exact eU e
  ·rw[if_neg h2] at e ⊢;exact eU e
theorem SA.bubble {lo:Nat}{st st':vd}(h:SA lo st st'){src d:Nat}(hs:src<(uT st').size)(hd:lo+d<=src):SA lo st (setArr st' (bubble (uT st') src d)) :=
 ⟨(bubble_perm _ _ _).trans h.perm,λk hk=>by
  show (PyProof.Rows.bubble (uT st') src d)[k]? = _
  rw[getElem?_bubble hs d (by lia),if_neg (by lia),if_neg (by lia)]
  exact h.pre k hk,h.k,h.p,h.f⟩
theorem oy (C:Cmp prog w A s O key U κ){st:vd}{lo n ok:Nat}{Q:Bool->vd->Prop}(hκ:kindOf st=κ)(hu:∀p∈(uT st).toList,U p)(hn:lo+n<=(uT st).size)(hok:ok<=n)(up:Up key (uT st) lo ok)
  (h:∀st',SA lo st st'->Up key (uT st') lo n->Q true st'):wpS (vk prog w) A E s (oh lo n ok) Q st:=by
 rw[ox]
 dsimp only
 refine uE (wC (vN (I:=λx c st'=>c=(none,())/\SA lo st st'/\Up key (uT st') lo (min x n)) (Q:=λc st'=>c=(none,())/\SA lo st st'/\Up key (uT st') lo n) ?step ?fin ⟨rfl,SA.refl _ _,λi j k1 k2 k3 =>?_⟩) ?post)
 case post =>
  rintro c st' ⟨rfl,sa,up⟩
  exact uN (h st' sa up)
 case fin =>
  rintro c st' ⟨rfl,sa,up⟩
  refine ⟨rfl,sa,?_⟩
  rw[show min (max (max ok 1) n) n=n by lia] at up
  exact up
 case step =>
  rintro k c st1 h1 h2 ⟨rfl,sa1,up1⟩
  rw[show min k n=k by lia] at up1
  have sz:=sa1.size
  have u1:∀p∈(uT st1).toList,U p:=λp hp=>hu p (sa1.mem hp)
  refine uE (wC (vN (I:=λx c st'=>st1=st'/\∃l r,c=(none,l,r)/\l<=r/\r<=k/\r-l<=k-x/\(∀i,i<l->O.kle (kk key (uT st1) (lo+i)) (kk key (uT st1) (lo+k)))/\(∀i,r<=i->i<k->O.klt (kk key (uT st1) (lo+k)) (kk key (uT st1) (lo+i))))
   (Q:=λc st'=>st1=st'/\∃l r,c=(none,l,r)/\l<=k/\(∀i,i<l->O.kle (kk key (uT st1) (lo+i)) (kk key (uT st1) (lo+k)))/\(∀i,l<=i->i<k->O.klt (kk key (uT st1) (lo+k)) (kk key (uT st1) (lo+i)))) ?istep ?ifin ⟨rfl,0,k,rfl,by lia,by lia,by lia,λi hi=>by lia,λi a1 a2=>by lia⟩) ?ipost)
  case ifin =>
   rintro c st' ⟨rfl,l,r,rfl,b1,b2,b3,b4,b5⟩
   have e:l=r:=by lia
   subst e
   exact ⟨rfl,l,l,rfl,b2,b4,b5⟩
  case istep =>
   rintro x c st' _ hx ⟨rfl,l,r,rfl,b1,b2,b3,b4,b5⟩
   dsimp only
   by_cases hge:l≥r
   ·rw[if_pos hge]
    have e:l=r:=by lia
    subst e
    exact uN ⟨rfl,l,l,rfl,b2,b4,b5⟩
   ·rw[if_neg hge]
    refine uE (dN C (sa1.k.trans hκ) u1 (by lia) (by lia) ?_)
    dsimp only
    cases hb:O.blt (kk key (uT st1) (lo+k)) (kk key (uT st1) (lo+(l+r)/2)) with
    | true =>
     rw[if_pos rfl]
     exact uN ⟨rfl,l,(l+r)/2,rfl,by lia,by lia,by lia,b4,λi a1 a2=>KeyOrd.klt_of_klt_of_kle hb (up1 _ _ (by lia) (by lia) (by lia))⟩
    | false =>
     rw[if_neg (by simp)]
     exact uN ⟨rfl,(l+r)/2+1,r,rfl,by lia,by lia,by lia,λi a1=>vo (up1 (lo+i) (lo+(l+r)/2) (by lia) (by lia) (by lia)) hb,b5⟩
  case ipost =>
   rintro c st' ⟨rfl,l,r,rfl,b2,b4,b5⟩
   dsimp only
   rw[moveDown'_eq]
   have e:lo+k-(lo+l)=k-l:=by lia
   refine uE (wQ (uN ⟨rfl,?_,?_⟩))
   ·rw[e]
    exact sa1.bubble (by lia) (by lia)
   ·rw[show min (k+1) n=k+1 by lia]
    intro i j k1 k2 k3
    show O.kle (kk key (bubble (uT st1) (lo+k) (lo+k-(lo+l))) i) (kk key (bubble (uT st1) (lo+k) (lo+k-(lo+l))) j)
    have lt:lo+k<(uT st1).size:=by lia
    rw[e,iM lt (by lia),iM lt (by lia),show lo+k-(k-l)=lo+l by lia]
    have b4':∀z,lo<=z->z<lo+l->O.kle (kk key (uT st1) z) (kk key (uT st1) (lo+k)):=λz z1 z2=>by
     have:=b4 (z-lo) (by lia)
     rw[show lo+(z-lo)=z by lia] at this
     exact this
    have b5':∀z,lo+l<=z->z<lo+k->O.kle (kk key (uT st1) (lo+k)) (kk key (uT st1) z):=λz z1 z2=>by
     have:=b5 (z-lo) (by lia) (by lia)
     rw[show lo+(z-lo)=z by lia] at this
     exact vQ this
    repeat' split
    all_goals first
     | (exfalso;lia)
     | exact wk _
     | exact b4' _ (by lia) (by lia)
     | exact b5' _ (by lia) (by lia)
     | exact up1 _ _ (by lia) (by lia) (by lia)
 ·by_cases h1:ok=0
  ·rw[show i=j by lia];exact wk _
  ·exact up i j k1 k2 (by lia)
end
open PySem PyProof.Rows
def pwr:Nat->Nat->Nat->Nat->Nat:=sortPriv% PySem.Builtin.power
def mrn:Nat->Nat->Nat->Nat:=sortPriv% PySem.Builtin.minRun
theorem oz:qK=(do
    let sz:=(uT (← get)).size
    let mr:=mrn sz sz 0
    let mut lo:=0
    for _ in [0:sz] do
      if lo≥sz then break
      let some fd ← rS lo (sz-lo)
        | return
      let mut n:=fd
      if n<mr then
        rule "list.sort.binary-insertion"
        let fo:=min (sz-lo) mr
        if !(← oh lo fo n) then return
        n:=fo
      if let some (s1,n1,_):=(va (← get)).back? then
        let pw:=pwr sz (2*s1+n1) (2*s1+n1+n1+n) sz
        for _ in [0:sz] do
          let p:=va (← get)
          let some (_,_,old):=(if p.size>1 then p[p.size-2]? else none)
            | break
          if old<=pw then break
          if !(← mAt (p.size-2)) then return
        modify λs=>SortSt.mk' (kindOf s) (uT s) ((va s).modify ((va s).size-1) λ(st,len,_)=>(st,len,pw)) (gallopOf s) (failedOf s)
      modify λs=>SortSt.mk' (kindOf s) (uT s) ((va s).push (lo,n,0)) (gallopOf s) (failedOf s)
      lo:=lo+n
    for _ in [0:sz] do
      let p:=va (← get)
      if p.size<=1 then break
      let i:=p.size-2
      let bf:=if i>0 then p[i-1]?.map (·.2.1) else none
      let i:=if bf.any (· < (p[i+1]?.elim 0 (·.2.1))) then i-1 else i
      if !(← mAt i) then return):=rfl
def Mt:Nat->List (List uK)->List (Nat×Nat×Nat)->Prop
 | _,[],[]=>True
 | off,r :: rs,p :: ps=>p.1=off/\p.2.1=r.length/\Mt (off+r.length) rs ps
 | _,_,_=>False
theorem Mt.length:∀{off:Nat} {rs:List (List uK)} {ps:List (Nat×Nat×Nat)},Mt off rs ps->ps.length=rs.length
 | _,[],[],_=>rfl
 | _,_ :: _,_ :: _,h=>by rw[vh,vh,Mt.length h.2.2]
theorem Mt.append:∀{off:Nat} {rs ts:List (List uK)} {ps us:List (Nat×Nat×Nat)},Mt off rs ps->Mt (off+rs.flatten.length) ts us->Mt off (rs++ts) (ps++us)
 | _,[],_,[],_,_,h=>by simpa using h
 | off,r :: rs,ts,p :: ps,us,h,h'=>by
  refine ⟨h.1,h.2.1,Mt.append h.2.2 ?_⟩
  rw[zk,uv, <- BU] at h'
  exact h'
theorem Mt.split:∀{off:Nat} {rs:List (List uK)} {ps:List (Nat×Nat×Nat)} (i:Nat),Mt off rs ps->i+1<ps.length →
  ∃R1 X Y R2 L1 w1 w2 L2,rs=R1++X :: Y :: R2/\ps=L1++(off+R1.flatten.length,X.length,w1) :: (off+R1.flatten.length+X.length,Y.length,w2) :: L2/\L1.length=i/\Mt off R1 L1/\Mt (off+R1.flatten.length+X.length+Y.length) R2 L2
 | off,r :: r2 :: rs,p :: p2 :: ps,0,h,_=>by
  obtain ⟨a,b,w1⟩:=p
  obtain ⟨c,d,w2⟩:=p2
  obtain ⟨h1,h2,h3,h4,h5⟩:=h
  dsimp only at h1 h2 h3 h4
  subst h1 h2 h3 h4
  exact ⟨[],r,r2,rs,[],w1,w2,ps,rfl,rfl,rfl,trivial,h5⟩
 | off,r :: rs,p :: ps,i+1,h,hl=>by
  rw[vh] at hl
  obtain ⟨R1,X,Y,R2,L1,w1,w2,L2,e1,e2,e3,m1,m2⟩:=Mt.split i h.2.2 (by lia)
  have ea:off+(r :: R1).flatten.length=off+r.length+R1.flatten.length:=by rw[zk,uv];lia
  refine ⟨r :: R1,X,Y,R2,p :: L1,w1,w2,L2,by rw[e1];rfl,?_,by rw[vh,e3],⟨h.1,h.2.1,m1⟩,?_⟩
  ·rw[ea,e2];rfl
  ·rw[ea];exact m2
 | off,[],[],i,_,hl=>by simp at hl
 | off,[_],[_],0,_,hl=>by simp at hl
theorem Mt.modify (f:Nat×Nat×Nat->Nat×Nat×Nat)(hf:∀p,(f p).1=p.1/\(f p).2.1=p.2.1):∀{off:Nat} {rs:List (List uK)} {ps:List (Nat×Nat×Nat)} (i:Nat),Mt off rs ps->Mt off rs (ps.modify i f)
 | _,[],[],i,_=>by cases i <;> exact trivial
 | off,r :: rs,p :: ps,0,h=>⟨(hf p).1.trans h.1,(hf p).2.trans h.2.1,h.2.2⟩
 | off,r :: rs,p :: ps,i+1,h=>⟨h.1,h.2.1,Mt.modify f hf i h.2.2⟩
theorem mQ {α:Type}(l:List α)(a b c:α)(r:List α):((l++a :: b :: r).set l.length c).eraseIdx (l.length+1)=l++c :: r:=by
 induction l with
 | nil=>rfl
 | cons x l ih=>simp only[List.cons_append,vh,List.set_cons_succ,zB,ih]
section
variable  {O:yW}(key:uK->O.α)(U:uK->Prop)(κ:SortKind)
structure Rn (a0:List uK)(lo:Nat)(st:vd):Prop where
 ex:∃runs rest,(uT st).toList=runs.flatten++rest/\runs.flatten.length=lo/\(∀r∈runs,r.Pairwise (Le key)/\0<r.length)/\Mt 0 runs (va st).toList
 perm:(uT st).toList.Perm a0
 k:kindOf st=κ
 f:failedOf st=none
end
section
variable  {prog:uM}{w:vt}{A:vz}{E:ug->uj->Prop}{s:uj}{O:yW}{key:uK->O.α}{U:uK->Prop}{κ:SortKind}
theorem jO (C:Cmp prog w A s O key U κ){a0:List uK}{lo i:Nat}{st:vd}{Q:Bool->vd->Prop}(hu:∀p∈a0,U p)(R:Rn key κ a0 lo st)(hi:i+1<(va st).size)
  (h:∀st',Rn key κ a0 lo st'->(va st').size+1=(va st).size->(uT st').toList.drop lo=(uT st).toList.drop lo->Q true st'):wpS (vk prog w) A E s (mAt i) Q st:=by
 obtain ⟨runs,rest,ea,el,er,em⟩:=R.ex
 obtain ⟨R1,X,Y,R2,L1,w1,w2,L2,e1,e2,e3,m1,m2⟩:=Mt.split i em (by rw[uo];exact hi)
 subst e1
 rw[wY] at e2 m2
 have hx:=er X (by simp)
 have hy:=er Y (by simp)
 have ga:(va st)[i]? = some (R1.flatten.length,X.length,w1):=by
  rw[<- uz,e2, <- e3,show L1.length=L1.length+0 by lia,kN];rfl
 have gb:(va st)[i+1]? = some (R1.flatten.length+X.length,Y.length,w2):=by
  rw[<- uz,e2, <- e3,kN];rfl
 refine r9 C (P:=R1.flatten) (X:=X) (Y:=Y) (S:=R2.flatten++rest) R.k R.f (by rw[ea];simp) (λp hp=>hu p (R.perm.mem_iff.mp hp)) ga gb hx.2 hy.2 hx.1 hy.1 λst' M pm sm ar pd kd fl =>?_
 have lm:M.length=X.length+Y.length:=by rw[pm.length_eq,uv]
 have ep:(va st').toList=L1++(R1.flatten.length,X.length+Y.length,w1) :: L2:=by
  rw[pd,Array.toList_eraseIdxIfInBounds,yP,e2, <- e3]
  exact mQ _ _ _ _ _
 refine h st' ⟨⟨R1++M :: R2,rest,?_,?_,λr hr =>?_,?_⟩,?_,kd,fl⟩ ?_ ?_
 ·rw[ar];simp
 ·rw[<- el];simp[lm];lia
 ·rcases uC.mp hr with q | q
  ·exact er r (by simp[q])
  ·rcases vn.mp q with q | q
   ·rw[q];exact ⟨sm,by have:=hx.2;lia⟩
   ·exact er r (by simp[q])
 ·rw[ep]
  refine Mt.append m1 ⟨by rw[wY],lm.symm,?_⟩
  rw[wY,lm, <- BU]
  exact m2
 ·rw[ar]
  refine List.Perm.trans ?_ R.perm
  rw[ea,show (R1++X :: Y :: R2).flatten++rest=R1.flatten++((X++Y)++(R2.flatten++rest)) by simp]
  exact we _ (wV _ pm)
 ·rw[<- uo, <- uo,ep,e2]
  simp only[uv,vh]
  lia
 ·have l1:(R1++M :: R2).flatten.length=lo:=by rw[<- el];simp[lm];lia
  have q1:(uT st').toList=(R1++M :: R2).flatten++rest:=by rw[ar];simp
  rw[q1,ea, <- l1,y9,l1, <- el,y9]
theorem Rn.sa {a0:List uK}{lo:Nat}{st st':vd}(R:Rn key κ a0 lo st)(sa:SA lo st st'):Rn key κ a0 lo st':=by
 obtain ⟨runs,rest,ea,el,er,em⟩:=R.ex
 have et:(uT st').toList.take lo=runs.flatten:=by
  have e1:(uT st').toList.take lo=(uT st).toList.take lo:=by
   refine AW λi =>?_
   rw[wm,wm]
   split
   ·rw[uz,uz];exact sa.pre i (by assumption)
   ·rfl
  rw[e1,ea, <- el,List.take_left]
 refine ⟨⟨runs,(uT st').toList.drop lo,by rw[<- et,wg],el,er,by rw[sa.p];exact em⟩,(yQ.mp sa.perm).trans R.perm,sa.k.trans R.k,sa.f.trans R.f⟩
theorem mR {xs:Array uK}{lo n:Nat}(h:Up key xs lo n):((xs.toList.drop lo).take n).Pairwise (Le key):=by
 refine xY.mpr λi j hi hj hij =>?_
 have get:∀k (hk:k<((xs.toList.drop lo).take n).length),key ((xs.toList.drop lo).take n)[k]=kk key xs (lo+k)/\k<n:=λk hk=>by
  have hk':=hk
  rw[vx] at hk'
  refine ⟨?_,by lia⟩
  have e:((xs.toList.drop lo).take n)[k]? = xs[lo+k]? := by
   rw[wm,if_pos (by lia),wF,uz]
  rw[ux hk] at e
  unfold kk
  rw[<- e];rfl
 obtain ⟨e1,l1⟩:=get i hi
 obtain ⟨e2,l2⟩:=get j hj
 show O.kle (key _) (key _)
 rw[e1,e2]
 exact h _ _ (by lia) (by lia) (by lia)
theorem Rn.push {a0:List uK}{lo n:Nat}{st:vd}(R:Rn key κ a0 lo st)(hn:0<n)(hz:lo+n<=(uT st).size)(hs:(((uT st).toList.drop lo).take n).Pairwise (Le key)) :
  Rn key κ a0 (lo+n) (SortSt.mk' (kindOf st) (uT st) ((va st).push (lo,n,0)) (gallopOf st) (failedOf st)):=by
 obtain ⟨runs,rest,ea,el,er,em⟩:=R.ex
 have ed:(uT st).toList.drop lo=rest:=by rw[ea, <- el,y9]
 rw[ed] at hs
 have lr:n<=rest.length:=by
  have:=congrArg List.length ea
  rw[uo,uv,el] at this
  lia
 have lt:(rest.take n).length=n:=by rw[vx];lia
 refine ⟨⟨runs++[rest.take n],rest.drop n,?_,?_,λr hr =>?_,?_⟩,R.perm,R.k,R.f⟩
 ·show (uT st).toList=_
  rw[ea];simp
 ·simp[lt,el]
 ·rcases uC.mp hr with q | q
  ·exact er r q
  ·have e:r=rest.take n:=by simpa using q
   rw[e];exact ⟨hs,by lia⟩
 ·show Mt 0 _ ((va st).push (lo,n,0)).toList
  rw[wd]
  exact Mt.append em ⟨by show lo=_;lia,lt.symm,trivial⟩
theorem Rn.mod {a0:List uK}{lo:Nat}{st:vd}(R:Rn key κ a0 lo st)(i:Nat)(f:Nat×Nat×Nat->Nat×Nat×Nat)(hf:∀p,(f p).1=p.1/\(f p).2.1=p.2.1):Rn key κ a0 lo (SortSt.mk' (kindOf st) (uT st) ((va st).modify i f) (gallopOf st) (failedOf st)):=by
 obtain ⟨runs,rest,ea,el,er,em⟩:=R.ex
 refine ⟨⟨runs,rest,ea,el,er,?_⟩,R.perm,R.k,R.f⟩
 show Mt 0 runs ((va st).modify i f).toList
 rw[Array.toList_modify]
 exact Mt.modify f hf i em
theorem sf {c:Prop}[Decidable c]{n:Nat}(h:1<n):(if c then n-2-1 else n-2)+1<n:=by split <;> omega
theorem iN:∀{runs:List (List uK)},(∀r∈runs,0<r.length)->runs.length<=runs.flatten.length
 | [],_=>ur _
 | r :: rs,h=>by
  have h1:=h r uZ
  have h2:=iN λq hq=>h q (u6 _ hq)
  rw[zk,uv,vh]
  lia
theorem oA (C:Cmp prog w A s O key U κ){a0:List uK}{st:vd}{Q:Unit->vd->Prop}(hu:∀p∈a0,U p)(ha:(uT st).toList=a0)(hp:va st = #[])(hk:kindOf st=κ)(hf:failedOf st=none)(h1:1<=a0.length)
  (h:∀st',(uT st').toList.Perm a0->(uT st').toList.Pairwise (Le key)->failedOf st'=none->Q () st'):wpS (vk prog w) A E s qK Q st:=by
 rw[oz]
 refine uE (zF ?_)
 dsimp only
 have sz0:(uT st).size=a0.length:=by rw[<- uo,ha]
 have szR:∀{lo:Nat} {st':vd},Rn key κ a0 lo st'->(uT st').size=(uT st).size:=λR=>by rw[<- uo,R.perm.length_eq,sz0]
 have uR:∀{lo:Nat} {st':vd},Rn key κ a0 lo st'->∀p∈(uT st').toList,U p:=λR p hp=>hu p (R.perm.mem_iff.mp hp)
 have R0:Rn key κ a0 0 st:=⟨⟨[],a0,by rw[ha];rfl,rfl,λr hr=>(by cases hr),by rw[hp];exact trivial⟩,by rw[ha],hk,hf⟩
 refine uE (wC (vN (I:=λx c st'=>∃lo,c=(none,lo)/\x<=lo/\lo<=(uT st).size/\Rn key κ a0 lo st') (Q:=λc st'=>c=(none,(uT st).size)/\Rn key κ a0 (uT st).size st') ?step ?fin ⟨0,rfl,ur _,vv _,R0⟩) ?post)
 case fin =>
  rintro c st' ⟨lo,rfl,l1,l2,R⟩
  obtain rfl:lo=(uT st).size:=by lia
  exact ⟨rfl,R⟩
 case post =>
  rintro c st1 ⟨rfl,R⟩
  dsimp only
  have p0:(va st1).size<=(uT st).size:=by
   obtain ⟨runs,rest,ea,el,er,em⟩:=R.ex
   have q:=em.length
   rw[uo] at q
   have:=iN λr hr=>(er r hr).2
   lia
  refine uE (wC (vN (I:=λx c st'=>c=(none,())/\Rn key κ a0 (uT st).size st'/\((va st').size<=1\/(va st').size+x<=(uT st).size)) (Q:=λc st'=>c=(none,())/\Rn key κ a0 (uT st).size st'/\(va st').size<=1) ?stepB ?finB ⟨rfl,R,.inr (by lia)⟩) ?postB)
  case finB =>
   rintro c st' ⟨rfl,R,q⟩
   exact ⟨rfl,R,by lia⟩
  case stepB =>
   rintro x c st' _ hx ⟨rfl,R,q⟩
   refine uE (zF ?_)
   by_cases c1:(va st').size<=1
   ·rw[if_pos c1]
    exact uN ⟨rfl,R,c1⟩
   rw[if_neg c1]
   refine uE (jO C hu R (sf (by lia)) λst2 R2 s2 _ =>?_)
   simp only[v5,uQ,if_false]
   exact uN ⟨rfl,R2,by lia⟩
  case postB =>
   rintro c st' ⟨rfl,R,q⟩
   obtain ⟨runs,rest,ea,el,er,em⟩:=R.ex
   have lm:=em.length
   rw[uo] at lm
   have lr:=congrArg List.length ea
   rw[uo,szR R,uv,el] at lr
   have er0:rest=[]:=zC.mp (by lia)
   subst er0
   rw[vE] at ea
   match runs,er,lm,el,ea with
   | [],_,_,el,_=>simp at el;lia
   | [r],er,_,_,ea =>
    have e:(uT st').toList=r:=by rw[ea];simp
    exact uN (h st' R.perm (by rw[e];exact (er r (by simp)).1) R.f)
   | _ :: _ :: _,_,lm,_,_=>simp at lm;lia
 case step =>
  rintro x c st1 _ hx ⟨lo,rfl,l1,l2,R⟩
  dsimp only
  by_cases cl:lo≥(uT st).size
  ·rw[if_pos cl]
   obtain rfl:lo=(uT st).size:=by lia
   exact uN ⟨rfl,R⟩
  rw[if_neg cl]
  have s1:=szR R
  refine uE (pY C R.k (uR R) (by lia) (by lia) λn st2 n1 n2 sa2 up2 =>?_)
  dsimp only
  have R2:=R.sa sa2
  have s2:=szR R2
  by_cases cm:n<mrn (uT st).size (uT st).size 0
  case' pos =>
   rw[if_pos cm]
   refine uE (Ac (yG ⟨rfl,?_⟩))
   obtain ⟨fo,e⟩:∃fo,fo=min ((uT st).size-lo) (mrn (uT st).size (uT st).size 0):=⟨_,rfl⟩
   rw[<- e]
   refine uE (oy C R2.k (uR R2) (by lia) (by lia) up2 λst3 sa3 up3 =>?_)
   simp only[v5,uQ,if_false]
   have R3:=R2.sa sa3
   have f0:0<fo:=by lia
   have f1:lo+fo<=(uT st).size:=by lia
  case' neg =>
   rw[if_neg cm]
   obtain ⟨fo,e⟩:∃fo,fo=n:=⟨_,rfl⟩
   subst e
   obtain ⟨st3,e3⟩:∃st3,st3=st2:=⟨_,rfl⟩
   subst e3
   have R3:=R2
   have up3:=up2
   have f0:0<fo:=n1
   have f1:lo+fo<=(uT st).size:=by lia
  all_goals
   have srt:=mR up3
   have s3:=szR R3
   refine uE (zF ?_)
   cases hbk:(va st3).back? with
   | none =>
    dsimp only
    exact uE (wQ (uN ⟨lo+fo,rfl,by lia,f1,R3.push f0 (by lia) srt⟩))
   | some t =>
    obtain ⟨t1,t2,t3⟩:=t
    dsimp only
    refine uE (wC (vN (I:=λ_ c st'=>c=(none,())/\Rn key κ a0 lo st'/\(uT st').toList.drop lo=(uT st3).toList.drop lo) (Q:=λc st'=>c=(none,())/\Rn key κ a0 lo st'/\(uT st').toList.drop lo=(uT st3).toList.drop lo) ?stepC ?finC ⟨rfl,R3,rfl⟩) ?postC)
    case finC=>exact λc st' q=>q
    case stepC =>
     rintro z c st4 _ _ ⟨rfl,R4,d4⟩
     refine uE (zF ?_)
     by_cases p1:(va st4).size>1
     ·rw[if_pos p1]
      have lt:(va st4).size-2<(va st4).size:=by lia
      have e:(va st4)[(va st4).size-2]? = some (va st4)[(va st4).size-2]:=by simp[lt]
      rw[e]
      dsimp only
      split
      ·exact uN ⟨rfl,R4,d4⟩
      ·refine uE (jO C hu R4 (by lia) λst5 R5 _ d5 =>?_)
       simp only[v5,uQ,if_false]
       exact uN ⟨rfl,R5,d5.trans d4⟩
     ·rw[if_neg p1]
      exact uN ⟨rfl,R4,d4⟩
    case postC =>
     rintro c st4 ⟨rfl,R4,d4⟩
     dsimp only
     have s4:=szR R4
     refine uE (wQ (uE (wQ (uN ⟨lo+fo,rfl,by lia,f1,?_⟩))))
     refine Rn.push ?_ f0 ?_ ?_
     ·refine Rn.mod R4 _ _ ?_
      exact λp=>⟨rfl,rfl⟩
     ·show lo+fo<=(uT st4).size
      lia
     ·show (((uT st4).toList.drop lo).take fo).Pairwise (Le key)
      rw[d4]
      exact srt
end
open PySem PyProof.Rows
structure ji (prog:uM)(w:vt)(s:uj)(vs:List ug)(O:yW)(key:ug->O.α):Prop where
 ok:2<=vs.length->∀(A:vz) (h6:Heap),(∀b o,s.heap.get? b=some o->h6.get? b=some o)->∃κ,(∀(Q:SortKind->uj->Prop) (E:ug->uj->Prop),Q κ { s with heap:=h6 }->vm (vk prog w) A (keyKind' vs.toArray) Q E { s with heap:=h6 }) ∧
  Cmp prog w A { s with heap:=h6 } O (λp=>key p.1) (λp=>p.1=p.2/\p.1∈vs) κ
section
variable  {prog:uM}{w:vt}{A:vz}{E:ug->uj->Prop}{s:uj}{O:yW}{key:ug->O.α}
theorem zs:∀vs:List ug,(vs.zip vs).map (·.2)=vs
 | []=>rfl
 | v :: vs=>by rw[AE,vg,zs vs]
theorem jP {l:List uK}{vs:List ug}(h:l.Perm (vs.zip vs)):(l.map (·.2)).Perm vs/\∀p∈l,p.1=p.2/\p.1∈vs:=by
 have e:=zs vs
 refine ⟨by have:=h.map (·.2);rw[e] at this;exact this,λp hp =>?_⟩
 have m:=h.mem_iff.mp hp
 obtain ⟨i,hi⟩:=vf.mp m
 rw[yZ] at hi
 have e1:=hi.1.symm.trans hi.2
 exact ⟨vw e1,uS hi.1⟩
theorem dX {a:Addr}{vs:List ug}{n:Nat}{P:Fin->uj->Prop}(ho:s.heap.get? a=some (seqObj "list" vs.toArray n))(hz:vs.length<=uL)
    (hc:2<=vs.length->∀h6,(∀b o,b≠a->s.heap.get? b=some o->h6.get? b=some o)->∃κ,(∀(Q:SortKind->uj->Prop) (E:ug->uj->Prop),Q κ { s with heap:=h6 }->vm (vk prog w) A (keyKind' vs.toArray) Q E { s with heap:=h6 }) ∧
      Cmp prog w A { s with heap:=h6 } O (λp=>key p.1) (λp=>p.1=p.2/\p.1∈vs) κ)
    (h:∀out:List ug,out.Perm vs->out.Pairwise (λx y=>O.kle (key x) (key y))->P (.done (.ret .none)) { s with heap:=sortedHeap s.heap a vs out.toArray }):vm (vk prog w) A (Builtin.«list.sort» ⟨[.ref a],[]⟩) P E s:=by
  rw[list_sort_plain]
  have ha:a<s.heap.objs.size:=uO ho
  refine uf (Bg ho rfl ?_)
  refine uf (AN ho rfl ?_ (by rw[uu];exact hz) (vv _))
  obtain ⟨e1,ho1⟩:∃e1,(s.heap.update a (wH λ_ => #[])).get? a=some (seqObj "list" #[] e1):=⟨_,get?_update_seq ho (λ_ => #[])⟩
  refine uf (seqEpoch_at ho1 rfl (uf (wpAny_newTuple ?_ (by exact hz))))
  refine uf (zG ?_ (vv _))
  refine wB ?_
  generalize hH:((s.heap.update a (wH λ_ => #[])).push (seqObj "tuple" vs.toArray 0)).push (seqObj "list" #[] 0)=h6
  have kp:∀b o,b≠a->s.heap.get? b=some o->h6.get? b=some o:=λb o nb e=>by
    rw[<- hH]
    refine uq _ (uq _ ?_)
    rw[Ao _ _ _ _ nb]
    exact e
  have ho6:h6.get? a=some (seqObj "list" #[] e1):=by
    rw[<- hH]
    exact uq _ (uq _ ho1)
  have eH:∀out:List ug,sortedHeap s.heap a vs out.toArray=h6.update a (wH λ_=>out.toArray):=λout=>by rw[<- hH];rfl
  have go:∀st':vd,(uT st').toList.Perm (vs.zip vs)->(uT st').toList.Pairwise (λp q=>O.kle (key p.1) (key q.1))->failedOf st'=none →
      vm (vk prog w) A (do
        let sorted:=(uT st').map (·.2)
        let touched:=(← seqEpoch a) != e1
        Builtin.List.listUpdate (.ref a) λ_=>sorted
        if let some e:=failedOf st' then rule "list.sort.comparison-raised";throw e
        if touched then rule "list.sort.modified";raiseError "ValueError" "list modified during sort"
        ret .none) P E { s with heap:=h6 }:=by
    intro st' pm ps hf
    obtain ⟨z1,z2⟩:=jP pm
    have em:(uT st').map (·.2)=((uT st').toList.map (·.2)).toArray:=by
      apply x9.mp
      rw[yA]
    dsimp only
    refine uf (seqEpoch_at ho6 rfl ?_)
    refine uf (AN ho6 rfl ?_ (vv _) (by rw[v3, <- uo,pm.length_eq,Br,Bd];lia))
    rw[hf]
    simp only[bne_self_eq_false,uQ,if_false]
    refine uD ?_
    rw[em, <- eH]
    refine h _ z1 (vL.mpr (ps.imp_of_mem λ{p q} hp hq le =>?_))
    rw[<- (z2 p hp).1, <- (z2 q hq).1]
    exact le
  by_cases h2:vs.toArray.size<2
  · rw[if_pos h2,if_pos h2]
    refine uf (uD ?_)
    dsimp only
    rw[StateT.run_pure]
    refine uf (uD ?_)
    refine go (SortSt.mk' general' (vs.toArray.zip vs.toArray) #[] 7 none) (by show (vs.toArray.zip vs.toArray).toList.Perm _;simp) ?_ rfl
    rw[uu] at h2
    have et:(vs.toArray.zip vs.toArray).toList=vs.zip vs:=by simp
    show (vs.toArray.zip vs.toArray).toList.Pairwise (λ(p q:uK)=>O.kle (key p.1) (key q.1))
    rw[et]
    have short:∀us:List ug,us.length<2->(us.zip us).Pairwise (λ(p q:uK)=>O.kle (key p.1) (key q.1)):=λus hu=>by
      match us,hu with
      | [],_=>exact List.Pairwise.nil
      | [v],_=>exact wM _ _
      | _ :: _ :: _,hu=>simp only[vh] at hu;lia
    exact short vs h2
  · rw[if_neg h2,if_neg h2]
    rw[uu] at h2
    obtain ⟨κ,k1,C⟩:=hc (by lia) h6 kp
    refine uf (k1 _ _ ?_)
    have et:(vs.toArray.zip vs.toArray).toList=vs.zip vs:=by simp
    refine uf (wG (oA C (E:=E) (a0:=vs.zip vs) (st:=SortSt.mk' κ (vs.toArray.zip vs.toArray) #[] 7 none)
      (Q:=λ_ st'=>(uT st').toList.Perm (vs.zip vs)/\(uT st').toList.Pairwise (Le λ(p:uK)=>key p.1)/\failedOf st'=none)
      (jP (xX _)).2 et rfl rfl rfl (by rw[Br,Bd];lia) λst' a1 a2 a3=>⟨a1,a2,a3⟩) ?_ λ_ _ e=>e)
    rintro ⟨⟨⟩,st'⟩ s' ⟨rfl,hp,hs,hf⟩
    exact go st' hp hs hf
def jQ (prog:uM)(w:vt)(s:uj)(v:ug)(vs:List ug):Prop :=
 ∀(A:vz) (E:ug->uj->Prop) (R:List ug->uj->Prop),(∀h1,(∀b o,s.heap.get? b=some o->h1.get? b=some o)->s.heap.objs.size<=h1.objs.size->R vs { s with heap:=h1 })->vm (vk prog w) A (collect v) R E s
theorem kO {v:ug}{vs:List ug}{Q:ug->uj->Prop}(hv:jQ prog w s v vs)(hz:vs.length<=uL)(C:ji prog w s vs O key)
  (h:∀(h':Heap) (p:Addr) (out:List ug) (n:Nat),(∀b o,s.heap.get? b=some o->h'.get? b=some o)->s.heap.objs.size<=p->h'.get? p=some (seqObj "list" out.toArray n)->out.Perm vs->out.Pairwise (λx y=>O.kle (key x) (key y))->Q (.ref p) { s with heap:=h' }) :
  vm (vk prog w) A (call (.builtin "sorted") [v]) Q E s:=by
 refine zc kind_sorted plain_sorted entry_sorted (args_sorted1 _) ?_
 unfold Builtin.«sorted»
 refine uf (m:=checkCount "sorted" 1 1 _) (uD ?_)
 refine uf (hv _ _ _ λh1 k1 z1=>uf (zG ?_ hz))
 have hoL:(h1.push (seqObj "list" vs.toArray 0)).get? h1.objs.size=some (seqObj "list" vs.toArray 0):=uU _ rfl
 have kL:∀b o,s.heap.get? b=some o->(h1.push (seqObj "list" vs.toArray 0)).get? b=some o:=λb o e=>uq _ (k1 b o e)
 refine uf (wB (yD slot_list_sort ⟨_,hoL,rfl⟩ entry_list_sort (dX (key:=key) (O:=O) hoL hz (λh2 h6 k6 =>?_) λout pm ps=>⟨_,rfl,?_⟩) (args_list_sort _)))
 ·exact C.ok h2 _ h6 λb o e=>k6 b o (ve (uG (uO e) z1)) (kL b o e)
 ·obtain ⟨n,en⟩:=sortedHeap_at (out:=out.toArray) hoL
  refine uD ⟨_,rfl,h _ _ out n (λb o e =>?_) z1 en pm ps⟩
  have lt:=uG (uO e) z1
  rw[sortedHeap_old (ve lt) (by rw[BQ];exact wz lt)]
  exact kL b o e
theorem jj {l:Addr}{o:Obj}{vs:List ug}{n:Nat}(ho:s.heap.get? l=some o)(hc:o.cls = .type "list" \/ o.cls = .type "tuple")(hd:o.data = .seq vs.toArray n)(hz:vs.length<=uL):jQ prog w s (.ref l) vs:=by
  intro A E R h
  unfold collect
  refine uf (ze (vM entry_proto_collect' ?_))
  show vm _ _ (do again (.builtin "list.__iadd__" ⟨[<- newList [],.ref l],[]⟩)) _ _ s
  refine uf (zG (uD ⟨yo _ (by decide +kernel),vM entry_list_iadd' ?_⟩))
  show vm _ _ (wU (.ref s.heap.objs.size) (.ref l) (.ref s.heap.objs.size)) _ _ { s with heap:=s.heap.push (seqObj "list" #[] 0) }
  unfold wU
  have ho':(s.heap.push (seqObj "list" #[] 0)).get? l=some o:=uq _ ho
  have cond:∀T,o.cls = .type T->(T = "list" \/ T = "tuple")->vm (vk prog w) A (typeOf (.ref l)) (λt s'=>t = .type T/\s'={ s with heap:=s.heap.push (seqObj "list" #[] 0) }) E { s with heap:=s.heap.push (seqObj "list" #[] 0) }:=λT e _=>yU (T:=T) ⟨o,ho',e⟩ ⟨rfl,rfl⟩
  obtain ⟨T,eT,hT⟩:∃T,o.cls = .type T/\(T = "list" \/ T = "tuple"):=by
    rcases hc with hc | hc
    · exact ⟨_,hc,.inl rfl⟩
    · exact ⟨_,hc,.inr rfl⟩
  refine uf (yU (T:=T) ⟨o,ho',eT⟩ ?_)
  rw[if_pos (by rcases hT with rfl | rfl <;> simp)]
  refine uf (Bg ho' hd ?_)
  refine uf (Bg (xs := #[]) (n:=0) (uU _ rfl) rfl ?_)
  rw[if_neg (by simp)]
  refine uf (AN (xs := #[]) (n:=0) (uU _ rfl) rfl ?_ (vv _) (by show (#[]++vs.toArray).size<=uL+1;simp only[xN,uu,yI];lia))
  refine uD ?_
  show vm (vk prog w) A (do
      let o ← load s.heap.objs.size
      match o.data with
      | .seq xs _=>pure xs.toList
      | _=>unsupported "internal:collect") R E { s with heap:=(s.heap.push (seqObj "list" #[] 0)).update s.heap.objs.size (wH (· ++ vs.toArray)) }
  refine uf (BP (get?_update_seq (uU _ rfl) _) ?_)
  show vm _ _ (pure ((#[]:Array ug)++vs.toArray).toList) R E _
  rw[show ((#[]:Array ug)++vs.toArray).toList=vs by simp]
  refine uD (h _ (λb ob e =>?_) ?_)
  · rw[Ao _ _ _ _ (ve (uO e))]
    exact uq _ e
  · rw[Heap.size_update,BQ]
    exact Nat.le_succ _
end
open PySem PyProof.Rows
theorem lex_irrefl:∀a,HT.lexLt a a=false
 | []=>rfl
 | x :: xs=>by rw[HT.cV,if_pos rfl];exact lex_irrefl xs
theorem lex_trans:∀a b c,HT.lexLt a b=true->HT.lexLt b c=true->HT.lexLt a c=true
 | [],[],_,h,_=>by cases h
 | [],_ :: _,[],_,h=>by cases h
 | [],_ :: _,_ :: _,_,_=>rfl
 | _ :: _,[],_,h,_=>by cases h
 | _ :: _,_ :: _,[],_,h=>by cases h
 | x :: xs,y :: ys,z :: zs,h1,h2=>by
  rw[HT.cV] at *
  by_cases e1:x=y
  ·subst e1
   rw[if_pos rfl] at h1
   by_cases e2:x=z
   ·rw[if_pos e2] at h2 ⊢
    exact lex_trans xs ys zs h1 h2
   ·rw[if_neg e2] at h2 ⊢
    exact h2
  ·rw[if_neg e1] at h1
   have l1:=of_decide_eq_true h1
   by_cases e2:y=z
   ·subst e2
    rw[if_neg e1]
    exact h1
   ·rw[if_neg e2] at h2
    have l2:=of_decide_eq_true h2
    rw[if_neg (by omega)]
    exact decide_eq_true (by omega)
theorem dO:∀a b,HT.lexLt a b=false->HT.lexLt b a=false->a=b
 | [],[],_,_=>rfl
 | [],_ :: _,h,_=>by cases h
 | _ :: _,[],_,h=>by cases h
 | x :: xs,y :: ys,h1,h2=>by
  rw[HT.cV] at *
  by_cases e:x=y
  ·subst e
   rw[if_pos rfl] at h1 h2
   rw[dO xs ys h1 h2]
  ·rw[if_neg e] at h1
   rw[if_neg (w6 e)] at h2
   have a1:=of_decide_eq_false h1
   have a2:=of_decide_eq_false h2
   omega
theorem pZ (a b c:List Int)(h:HT.lexLt a c=true):HT.lexLt a b=true\/HT.lexLt b c=true:=by
 cases h1:HT.lexLt a b with
 | true=>exact .inl rfl
 | false =>
  right
  cases h2:HT.lexLt b a with
  | true=>exact lex_trans b a c h2 h
  | false=>rw[<- dO a b h1 h2];exact h
def lexOrd:yW where
 α:=List Int
 blt:=HT.lexLt
 irrefl:=lex_irrefl
 trans:=lex_trans
 negTrans:=pZ
 total:=dO
def intOf:ug->Int
 | .int i _=>i
 | _=>0
section
variable  {prog:uM}{w:vt}{A:vz}{E:ug->uj->Prop}{s:uj}
def bX (h:Heap)(v:ug):List Int:=match v with
 | .ref p=>match h.get? p with
  | some o=>match o.data with
   | .seq xs _=>xs.toList.map intOf
   | _=>[]
  | none=>[]
 | _=>[]
def cw (h:Heap)(v:ug)(ns:List Int):Prop:=∃p o xs n,v = .ref p/\h.get? p=some o/\o.cls = .type "tuple" /\ o.data = .seq xs n/\xW xs.toList ns
theorem ints_map:∀{vs:List ug} {ns:List Int},xW vs ns->vs.map intOf=ns
 | _,_,.nil=>rfl
 | _,_,.cons n t r=>by rw[vg,ints_map r];rfl
theorem cw.ints {h:Heap}{v:ug}{ns:List Int}(x:cw h v ns):bX h v=ns:=by
 obtain ⟨p,o,xs,n,rfl,e,_,d,r⟩:=x
 unfold bX
 dsimp only
 rw[e]
 dsimp only
 rw[d]
 exact ints_map r
theorem cw.keeps {h h':Heap}{v:ug}{ns:List Int}(x:cw h v ns)(k:∀b o,h.get? b=some o->h'.get? b=some o):cw h' v ns:=by
 obtain ⟨p,o,xs,n,rfl,e,r⟩:=x
 exact ⟨p,o,xs,n,rfl,k _ _ e,r⟩
theorem jR {fin:Bool}{Q:Bool->uj->Prop}:∀{us ws:List ug} {ns ms:List Int} (i:Nat),xW us ns->xW ws ms->(fin=true↔(decide (ns.length<ms.length)=true))->Q (HT.lexLt ns ms) s →
  PySem.W.KatLex prog w A true fin Q (us.zip ws) i s
 | _,_,_,_,i,.nil,.nil,hf,q=>by
  refine z3 ?_
  have e:fin=false:=by cases fin with
   | false=>rfl
   | true=>have:=hf.mp rfl;simp at this
  rw[e];exact q
 | _,_,_,_,i,.nil,.cons _ _ _,hf,q=>by
  refine z3 ?_
  have e:fin=true:=hf.mpr (by simp)
  rw[e];exact q
 | _,_,_,_,i,.cons _ _ _,.nil,hf,q=>by
  refine z3 ?_
  have e:fin=false:=by cases fin with
   | false=>rfl
   | true=>have:=hf.mp rfl;simp at this
  rw[e];exact q
 | _,_,_,_,i,.cons (ns:=ns) a t r,.cons (ns:=ms) c u r',hf,q=>by
  rw[AE]
  refine PySem.W.kat_cons (wpAny_eqBool_int ?_)
  rw[HT.cV] at q
  by_cases e:a=c
  ·rw[if_pos e] at q
   rw[beq_iff_eq.mpr e]
   exact PySem.W.kat_yes (jR (i+1) r r' (by rw[hf];simp) q)
  ·rw[if_neg e] at q
   rw[beq_eq_false_iff_ne.mpr e]
   refine PySem.W.kat_no ?_
   by_cases i0:(true && i == 0)=true
   ·rw[i0]
    exact oneLt_int q
   ·rw[AX.mpr i0,oneLt'_eq]
    simp only[uQ,if_false]
    refine uf (HT.nY _ _ a t c u prog w _ _ ?_)
    exact xo q
theorem gz {h:Heap}:∀{vs:List ug},(∀v∈vs,∃ns,cw h v ns/\ns≠[])->∃fs,PySem.W.KatTups h vs fs/\fs.length=vs.length/\∀f∈fs,∃i t,f = .int i t
 | [],_=>⟨[],trivial,rfl,λf hf=>by cases hf⟩
 | v :: vs,hv=>by
  obtain ⟨fs,t,l,hf⟩:=gz λu hu=>hv u (u6 _ hu)
  obtain ⟨ns,⟨p,o,xs,n,rfl,e,c,d,r⟩,ne⟩:=hv v uZ
  have hx:∃i t,xs[0]? = some (.int i t):=by
   rw[<- uz]
   generalize xs.toList=l at r
   cases r with
   | nil=>exact absurd rfl ne
   | cons i t r=>exact ⟨i,t,rfl⟩
  obtain ⟨i,t',hx⟩:=hx
  exact ⟨.int i t' :: fs,B1 e c d hx t,by rw[vh,vh,l],λf hf'=>by
   rcases vn.mp hf' with q | q
   ·exact ⟨i,t',q⟩
   ·exact hf f q⟩
theorem eV {vs:List ug}(hv:∀v∈vs,∃ns,cw s.heap v ns/\ns≠[]):ji prog w s vs lexOrd (bX s.heap):=by
 refine ⟨λh2 A h6 k6=>⟨tuples' true,λQ E q =>?_,⟨λE st x y Q hk hx hy q =>?_⟩⟩⟩
 ·obtain ⟨fs,t,l,hf⟩:=gz (h:=h6) (vs:=vs) λv hv'=>by
   obtain ⟨ns,i,ne⟩:=hv v hv'
   exact ⟨ns,i.keeps k6,ne⟩
  refine PySem.W.kat_kind (T :=.type "int") t (by lia) (λf hf' =>?_) rfl q
  obtain ⟨i,t',rfl⟩:=hf f hf'
  exact B0 rfl
 ·obtain ⟨ns,i1,_⟩:=hv _ hx.2
  obtain ⟨ms,i2,_⟩:=hv _ hy.2
  have q':Q (some (HT.lexLt (bX s.heap x.1) (bX s.heap y.1))) st:=q
  rw[i1.ints,i2.ints] at q'
  obtain ⟨p1,o1,xs1,n1,e1,g1,c1,d1,r1⟩:=i1.keeps k6
  obtain ⟨p2,o2,xs2,n2,e2,g2,c2,d2,r2⟩:=i2.keeps k6
  rw[lt'_eq]
  refine uE (zF ?_)
  rw[hk,e1,e2]
  have l1:=r1.length
  have l2:=r2.length
  refine uE (Ac (wpAny_attempt (PySem.W.kat_lt g1 d1 g2 d2 (jR 0 r1 r2 ?_ ⟨rfl,?_⟩))))
  ·rw[<- l1, <- l2,uo,uo]
  ·exact uN q'
end
end Srt
namespace L2
open PySem PySem.Spec PyProof.Rows
theorem gB {α β:Type}{f:α -> β}:∀{l:List β} {m:List α},l.Perm (m.map f)->∃m':List α,m'.Perm m/\l=m'.map f:=by
 intro l m h
 generalize hk:m.map f=k at h
 induction h generalizing m with
 | nil =>
  have:m=[]:=List.map_eq_nil_iff.mp hk
  exact ⟨[],by rw[this],rfl⟩
 | cons x _ ih =>
  match m,hk with
  | y :: m,hk =>
   rw[vg] at hk
   injection hk with h1 h2
   obtain ⟨m',p,e⟩:=ih h2
   exact ⟨y :: m',p.cons y,by rw[vg, <- e,h1]⟩
  | [],hk=>cases hk
 | swap x y l =>
  match m,hk with
  | a :: b :: m,hk =>
   rw[vg,vg] at hk
   injection hk with h1 h2
   injection h2 with h2 h3
   exact ⟨b :: a :: m,List.Perm.swap a b m,by rw[vg,vg,h1,h2,h3]⟩
  | [],hk=>cases hk
  | [_],hk=>simp at hk
 | trans _ _ ih1 ih2 =>
  obtain ⟨m',p,e⟩:=ih2 hk
  obtain ⟨m'',p',e'⟩:=ih1 e.symm
  exact ⟨m'',p'.trans p,e'⟩
theorem c0:∀{ns:List Int} {us:List ug},Vals (ns.map V.int) us->xW us ns:=λr=>intsAre_of r
theorem cP:∀{α:Type} {f:α -> Addr} {ps:List α} {us:List ug},Vals (ps.map λx=>V.ref (f x)) us->us=ps.map λx=>uW (f x)
 | _,_,[],_,r=>by cases r;rfl
 | _,f,p :: ps,_,r=>by
  cases r with
  | cons h t=>rw[vg, <- cP t,show _=uW (f p) from h]
theorem dP {α:Type}{f:α -> Addr}:∀{ps:List α},Vals (ps.map λx=>V.ref (f x)) (ps.map λx=>uW (f x))
 | [] =>.nil
 | p :: ps =>.cons rfl dP
section
variable  {X:Cx}
theorem Inv.oB {pins:List (Addr×Obj)}{σ:St}{H:Hp}{s:uj}{p:Addr}{ys:List V}(I:Inv X pins σ H s)(h:SqL X.K H p ys\/SqT X.K H p ys) :
  ∃(its:List ug) (o:Obj) (n:Nat),Vals ys its/\s.heap.get? p=some o/\(o.cls = .type "list" \/ o.cls = .type "tuple")/\o.data = .seq its.toArray n/\ys.length<=uL:=by
 rcases h with h | h
 ·obtain ⟨its,r,⟨o,n,e,c,_,d⟩,z⟩:=I.list h
  exact ⟨its,o,n,r,e,.inl c,d,z⟩
 ·obtain ⟨its,r,⟨o,e,c,n,d⟩,z⟩:=I.tuple h
  exact ⟨its,o,n,r,e,.inr c,d,z⟩
theorem Inv.newList {pins:List (Addr×Obj)}{σ:St}{H:Hp}{s:uj}{h':Heap}{p:Addr}{ys:List V}{its:List ug}{n:Nat}(I:Inv X pins σ H s)(k:∀b o,s.heap.get? b=some o->h'.get? b=some o)(hp:s.heap.objs.size<=p)
  (e:h'.get? p=some { cls :=.type "list",data :=.seq its.toArray n }) (r:Vals ys its) (hz:ys.length<=uL):Inv X pins σ (upd H p (.lst ys)) { s with heap:=h' } :=
 I.laid (t':=s.toks) k hp ⟨hz,its,n,r,e⟩
theorem da:bO X (.builtin "sorted") (λxs H Q=>∃(p:Addr) (ts:List (Addr×List Int)),xs=[.ref p]/\(SqL X.K H p (ts.map λt =>.ref t.1)\/SqT X.K H p (ts.map λt =>.ref t.1))/\(∀t∈ts,SqT X.K H t.1 (t.2.map V.int)/\t.2≠[]) ∧
  ∀(l:Addr) (out:List (Addr×List Int)),H l=none->out.Perm ts->out.Pairwise (λa b=>HT.lexLt b.2 a.2=false)->Q (.ref l) (upd H l (.lst (out.map λt =>.ref t.1)))):=by
 intro pins s σ H xs us Q I r h
 obtain ⟨p,ts,rfl,hs,ht,q⟩:=h
 obtain ⟨u,rfl,ru⟩:=vals1 r
 cases (show u=uW p from ru)
 obtain ⟨its,o,n,rv,e,c,d,z⟩:=I.oB hs
 have ei:=cP rv
 have lz:its.length<=uL:=by rw[<- rv.length];exact z
 have tup:∀t∈ts,Srt.cw s.heap (uW t.1) t.2:=λt hm=>by
  obtain ⟨jts,jr,⟨jo,je,jc,jn,jd⟩,_⟩:=I.tuple (ht t hm).1
  exact ⟨t.1,jo,_,jn,rfl,je,jc,jd,by simpa using c0 jr⟩
 have hv:∀v∈its,∃ns,Srt.cw s.heap v ns/\ns≠[]:=λv hv=>by
  rw[ei] at hv
  obtain ⟨t,hm,rfl⟩:=uH.mp hv
  exact ⟨t.2,tup t hm,(ht t hm).2⟩
 refine Srt.kO (Srt.jj e c d lz) lz (Srt.eV hv) λh' l out m k hl el pm ps =>?_
 rw[ei] at pm
 obtain ⟨out',pm',rfl⟩:=gB pm
 refine ⟨.ref l,_,I.newList k hl el dP (by rw[ue,pm'.length_eq, <- ue (f:=λt:Addr×List Int=>V.ref t.1)];exact z),rfl,q l _ (I.hok.fresh hl) pm' ?_⟩
 refine (vL.mp ps).imp_of_mem λ{a b} ha hb le =>?_
 have le':HT.lexLt (Srt.bX s.heap (uW b.1)) (Srt.bX s.heap (uW a.1))=false:=le
 rw[(tup a (pm'.mem_iff.mp ha)).ints,(tup b (pm'.mem_iff.mp hb)).ints] at le'
 exact le'
end
open PySem PySem.Spec PyProof.Rows
def qM (a b:List Int):Prop:=HT.lexLt b a=false
theorem jS:∀{l m:List (List Int)},l.Perm m->l.Pairwise qM->m.Pairwise qM->l=m
 | [],m,p,_,_=>(List.Perm.nil_eq p)
 | a :: l,[],p,_,_=>absurd p.length_eq (by simp)
 | a :: l,b :: m,p,h1,h2=>by
  have e:a=b:=by
   have ha:a∈b :: m:=p.mem_iff.mp uZ
   have hb:b∈a :: l:=p.mem_iff.mpr uZ
   rcases vn.mp ha with z | z
   ·exact z
   rcases vn.mp hb with y | y
   ·exact y.symm
   have q1:=(wD.mp h1).1 b y
   have q2:=(wD.mp h2).1 a z
   exact Srt.dO a b q2 q1
  subst e
  rw[jS ((List.perm_cons a).mp p) (wD.mp h1).2 (wD.mp h2).2]
open PySem PySem.Spec PyProof.Rows
section
variable  {X:Cx}{tg:Expr}
end
theorem gC {X:Cx}{K:uh}{x y:Str}{i j k:Nat}{p p' pos:Pos}(hN:X.N.Nodup)(hi:X.N[i]? = some x)(hj:X.N[j]? = some y)(hx:Loc X.env.scope x)(hy:Loc X.env.scope y)(hc:X.calm=true:=by rfl)(h:X.K=K:=by rfl)
  (hf:X.fn x=true\/X.env.scope.names.lookup x=some .local:=by first | exact .inl rfl | exact .inr rfl) (hg:X.fn y=true\/X.env.scope.names.lookup y=some .local:=by first | exact .inl rfl | exact .inr rfl):PG X (.Tuple [.Name x p,.Name y p'] k pos) (oa K i j):=by
 subst h
 exact rB hc (jI (aH hN hi hx hf) (jI (aH hN hj hy hg) pf))
end L2
namespace STab
open PySem PySem.SetTable
def jk (xs:Array Nat):Prop:=∀i j a b:Nat,xs[i]? = some a->xs[j]? = some b->i<j->a<b
theorem oD {xs:Array Nat}(R:jk xs)(j:Nat):∀(fuel lo hi:Nat),lo<=hi->hi<=xs.size->hi-lo<=fuel →
  (∀i a,i<lo->xs[i]? = some a->a<j)->(∀i a,hi<=i->xs[i]? = some a->j<=a) →
  below.go xs j fuel lo hi<=xs.size/\(∀i a,xs[i]? = some a->(i<below.go xs j fuel lo hi↔a<j)):=by
 intro fuel
 induction fuel with
 | zero =>
  intro lo hi h1 h2 h3 h4 h5
  unfold below.go
  refine ⟨by lia,λi a e=>⟨λq=>h4 i a q e,λq =>?_⟩⟩
  apply yb
  intro q2
  have:=h5 i a (by lia) e
  lia
 | succ fuel ih =>
  intro lo hi h1 h2 h3 h4 h5
  unfold below.go
  by_cases hl:lo<hi
  ·rw[if_pos hl]
   dsimp only
   have hm:(lo+hi)/2<xs.size:=by lia
   have em:xs[(lo+hi)/2]? = some xs[(lo+hi)/2]:=u0 hm
   have eg:xs.getD ((lo+hi)/2) j=xs[(lo+hi)/2]:=by simp[Array.getD,hm]
   rw[eg]
   by_cases hc:xs[(lo+hi)/2]<j
   ·rw[if_pos hc]
    refine ih _ _ (by lia) h2 (by lia) (λi a q e =>?_) h5
    by_cases q2:i=(lo+hi)/2
    ·rw[q2,em] at e;cases e;exact hc
    ·exact Nat.lt_trans (R i _ _ _ e em (by lia)) hc
   ·rw[if_neg hc]
    refine ih _ _ (by lia) (by lia) (by lia) h4 (λi a q e =>?_)
    by_cases q2:i=(lo+hi)/2
    ·rw[q2,em] at e;cases e;lia
    ·have:=R _ i _ _ em e (by lia)
     lia
  ·rw[if_neg hl]
   refine ⟨by lia,λi a e=>⟨λq=>h4 i a q e,λq =>?_⟩⟩
   apply yb
   intro q2
   have:=h5 i a (by lia) e
   lia
theorem cx {xs:Array Nat}(R:jk xs)(j:Nat):below xs j<=xs.size/\∀i a,xs[i]? = some a->(i<below xs j↔a<j) :=
 oD R j _ _ _ (vv _) (ur _) (by lia) (λi a h=>by lia) λi a h e=>by
  rw[xC (by lia)] at e;cases e
theorem below_at {xs:Array Nat}(R:jk xs){i j:Nat}(h:xs[i]? = some j):below xs j=i:=by
 obtain ⟨h1,h2⟩:=cx R j
 have hi:i<xs.size:=by
  apply yb;intro q;rw[xC q] at h;cases h
 have a1:¬ i<below xs j:=λq=>by have:=(h2 i j h).mp q;lia
 apply yn (by lia)
 apply yw
 intro q
 have e:=u0 (xs:=xs) (i:=below xs j) (by lia)
 have l1:=R _ _ _ _ e h q
 have:=(h2 _ _ e).mpr l1
 lia
theorem kP {xs:Array Nat}(R:jk xs){i j:Nat}(h:xs[i]? = some j):below xs (j+1)=i+1:=by
 obtain ⟨h1,h2⟩:=cx R (j+1)
 have a1:i<below xs (j+1):=(h2 i j h).mpr (by lia)
 apply yn _ a1
 apply yw
 intro q
 have hk:i+1<xs.size:=by lia
 have e:=u0 (xs:=xs) hk
 have l1:=R _ _ _ _ h e (by lia)
 have:=(h2 _ _ e).mp q
 lia
theorem kQ {xs:Array Nat}(R:jk xs):below xs 0=0:=by
 obtain ⟨h1,h2⟩:=cx R 0
 apply yn _ (vv _)
 apply yw
 intro q
 have:=(h2 0 _ (u0 (by lia))).mp q
 lia
theorem bq {α:Type}(xs:Array α)(p:Nat)(x:α):(insertAt xs p x).toList=xs.toList.take p++x :: xs.toList.drop p:=by
 unfold insertAt
 simp
 rw[uI (by simp)]
theorem bJ {α:Type}(xs:Array α){p:Nat}(hp:p<=xs.size)(x:α)(i:Nat) :
  (insertAt xs p x)[i]? = if i<p then xs[i]? else if i=p then some x else xs[i-1]? := by
 rw[<- uz,bq]
 have hl:(xs.toList.take p).length=p:=by rw[vx,uo];lia
 by_cases h1:i<p
 ·rw[if_pos h1,wA (by lia),wm,if_pos h1,uz]
 ·rw[if_neg h1,wW (by lia),hl]
  by_cases h2:i=p
  ·rw[if_pos h2,h2,Nat.sub_self];rfl
  ·rw[if_neg h2]
   obtain ⟨d,hd⟩:∃d,i-p=d+1:=⟨i-p-1,by lia⟩
   rw[hd,wN,wF,uz]
   congr 1;lia
theorem bY {α:Type}(xs:Array α)(p:Nat)(x:α):(insertAt xs p x).size=xs.size+1:=by
 rw[<- uo,bq,uv,vh,vx,wI,uo]
 lia
theorem insertAt_perm {α:Type}(xs:Array α)(p:Nat)(x:α):(insertAt xs p x).toList.Perm (x :: xs.toList):=by
 rw[bq]
 exact zL.trans (by rw[wg])
theorem jl {α β:Type}(xs:Array α)(p:Nat)(x:α)(f:α -> β):(insertAt xs p x).map f=insertAt (xs.map f) p (f x):=by
 apply x9.mp
 rw[yA,bq,bq,yA,uJ,vg,AF,AG]
theorem ib {xs:Array Nat}(R:jk xs){j:Nat}(hj:∀i:Nat,xs[i]? ≠ some j):jk (insertAt xs (below xs j) j):=by
 obtain ⟨h1,h2⟩:=cx R j
 intro a b x y ea eb hab
 rw[bJ _ h1] at ea eb
 by_cases a1:a<below xs j
 ·rw[if_pos a1] at ea
  have:=(h2 _ _ ea).mp a1
  by_cases b1:b<below xs j
  ·rw[if_pos b1] at eb;exact R _ _ _ _ ea eb hab
  ·rw[if_neg b1] at eb
   by_cases b2:b=below xs j
   ·rw[if_pos b2] at eb;cases eb;exact this
   ·rw[if_neg b2] at eb
    exact R _ _ _ _ ea eb (by lia)
 ·rw[if_neg a1] at ea
  rw[if_neg (by lia),if_neg (by lia)] at eb
  have l1:¬ y<j:=λq=>by have:=(h2 _ _ eb).mpr q;lia
  by_cases a2:a=below xs j
  ·rw[if_pos a2] at ea;cases ea
   have:y≠j:=λq=>hj _ (q ▸ eb)
   lia
  ·rw[if_neg a2] at ea
   exact R _ _ _ _ ea eb (by lia)
def occ (t:SetTable)(j:Nat):Prop:=∃i:Nat,t.place[i]? = some j
theorem fA {t:SetTable}(R:jk t.place){i j:Nat}(h:t.place[i]? = some j):t.slot j = .live i:=by
 unfold SetTable.slot
 dsimp only
 rw[below_at R h,h]
 simp
theorem kR {t:SetTable}(D:t.dummies = #[]){j:Nat}(h:¬ occ t j):t.slot j = .empty:=by
 unfold SetTable.slot
 dsimp only
 have h1:(t.place[below t.place j]? == some j)=false:=by
  rw[beq_eq_false_iff_ne];exact λq=>h ⟨_,q⟩
 rw[h1,D]
 simp[has]
def adv (mask:Nat)(p:Probe):Probe :=
 if p.more>0 then { p with j:=p.j+1,more:=p.more-1 } else
 let (i,perturb):=leap mask p.i p.perturb
 { p with j:=i,more:=runEnd mask i-i,i,perturb }
def bZ (mask i perturb:Nat):Probe:={ j:=i,more:=runEnd mask i-i,i,perturb,dummy:=none }
def start (mask:Nat)(h:Int):Probe:=bZ mask (bits h%(mask+1)) (bits h)
inductive Way (oc:Nat->Prop)(mask:Nat):Nat->Probe->Probe->Prop
 | here (p:Probe):Way oc mask 0 p p
 | step {n:Nat} {p q:Probe}:oc p.j->Way oc mask n (adv mask p) q->Way oc mask (n+1) p q
theorem Way.mono {oc oc':Nat->Prop}{mask n:Nat}{p q:Probe}(m:∀j,oc j->oc' j)(h:Way oc mask n p q):Way oc' mask n p q:=by
 induction h with
 | here p=>exact .here p
 | step a _ ih=>exact .step (m _ a) ih
theorem Way.dummy {oc:Nat->Prop}{mask n:Nat}{p q:Probe}(h:Way oc mask n p q):q.dummy=p.dummy:=by
 induction h with
 | here p=>rfl
 | @step n p q _ _ ih =>
  rw[ih];unfold adv;split <;> rfl
theorem sg {mask:Nat}{p:Probe}(h:p.j+p.more<=mask):(adv mask p).j+(adv mask p).more<=mask:=by
 unfold adv
 split
 ·dsimp only;lia
 ·dsimp only[leap]
  have:(p.i*5+1+p.perturb/32)%(mask+1)<mask+1:=yq _ (yg mask)
  unfold runEnd
  split <;> lia
theorem jT (mask:Nat)(h:Int):(start mask h).j+(start mask h).more<=mask:=by
 unfold start bZ
 dsimp only
 have:bits h%(mask+1)<mask+1:=yq _ (yg mask)
 unfold runEnd
 split <;> lia
theorem Way.le {oc:Nat->Prop}{mask n:Nat}{p q:Probe}(h:Way oc mask n p q):p.j+p.more<=mask->q.j<=mask:=by
 induction h with
 | here p=>intro;lia
 | step _ _ ih=>intro h;exact ih (sg h)
def jm (mask:Nat):Nat->Probe->Probe
 | 0,p=>p
 | n+1,p=>jm mask n (adv mask p)
theorem jU (mask:Nat):∀(a b:Nat) (p:Probe),jm mask (a+b) p=jm mask b (jm mask a p)
 | 0,b,p=>by rw[wY];rfl
 | a+1,b,p=>by rw[show a+1+b=(a+b)+1 by lia];exact jU mask a b (adv mask p)
theorem mS (oc:Nat->Prop)(mask:Nat):∀(n:Nat) (p:Probe),¬ oc (jm mask n p).j->∃k q,k<=n/\Way oc mask k p q/\¬ oc q.j:=by
 intro n
 induction n with
 | zero=>intro p h;exact ⟨0,p,ur _,.here p,h⟩
 | succ n ih =>
  intro p h
  by_cases hp:oc p.j
  ·obtain ⟨k,q,a,b,c⟩:=ih (adv mask p) h
   exact ⟨k+1,q,by lia,.step hp b,c⟩
  ·exact ⟨0,p,vv _,.here p,hp⟩
theorem p5 (mask:Nat):∀(m:Nat) (p:Probe),p.more=m->p.dummy=none->jm mask (m+1) p=bZ mask (leap mask p.i p.perturb).1 (leap mask p.i p.perturb).2:=by
 intro m
 induction m with
 | zero =>
  intro p h d
  show adv mask p=_
  unfold adv
  rw[if_neg (by lia)]
  obtain ⟨j,mo,i,pe,dm⟩:=p
  cases d
  rfl
 | succ m ih =>
  intro p h d
  show jm mask (m+1) (adv mask p)=_
  have e:adv mask p={ p with j:=p.j+1,more:=p.more-1 }:=by unfold adv;rw[if_pos (by lia)]
  rw[e]
  exact ih _ (by dsimp only;lia) d
def bM (mask:Nat):Nat->Nat×Nat->Nat×Nat
 | 0,x=>x
 | k+1,x=>bM mask k (leap mask x.1 x.2)
theorem iO (mask:Nat):∀(a b:Nat) (x:Nat×Nat),bM mask (a+b) x=bM mask b (bM mask a x)
 | 0,b,x=>by rw[wY];rfl
 | a+1,b,x=>by rw[show a+1+b=(a+b)+1 by lia];exact iO mask a b _
theorem more_le (mask i:Nat):runEnd mask i-i<=9:=by unfold runEnd;split <;> lia
theorem kS (mask:Nat):∀(k i pe:Nat),∃n,n<=10*k/\jm mask n (bZ mask i pe)=bZ mask (bM mask k (i,pe)).1 (bM mask k (i,pe)).2:=by
 intro k
 induction k with
 | zero=>intro i pe;exact ⟨0,by lia,rfl⟩
 | succ k ih =>
  intro i pe
  obtain ⟨n,h1,h2⟩:=ih (leap mask i pe).1 (leap mask i pe).2
  refine ⟨(runEnd mask i-i+1)+n,by have:=more_le mask i;lia,?_⟩
  rw[jU,p5 mask (runEnd mask i-i) (bZ mask i pe) rfl rfl]
  exact h2
theorem dY (mask:Nat):∀(k i pe:Nat),(bM mask k (i,pe)).2=pe/32 ^ k
 | 0,i,pe=>by simp[bM]
 | k+1,i,pe=>by
  show (bM mask k (leap mask i pe)).2=_
  rw[show leap mask i pe=((leap mask i pe).1,pe/32) from rfl,dY mask k,Nat.div_div_eq_div_mul,Nat.pow_succ,Nat.mul_comm 32]
theorem jV (mask:Nat):∀(k i pe:Nat),i<=mask->(bM mask k (i,pe)).1<=mask
 | 0,i,pe,h=>h
 | k+1,i,pe,h=>by
  show (bM mask k (leap mask i pe)).1<=mask
  rw[show leap mask i pe=((leap mask i pe).1,pe/32) from rfl]
  exact jV mask k _ _ (xO (yq _ (yg mask)))
def ste (m i:Nat):Nat:=(i*5+1)%m
def its (m:Nat):Nat->Nat->Nat
 | 0,i=>i
 | n+1,i=>its m n (ste m i)
theorem f9 (m:Nat):∀(a b i:Nat),its m (a+b) i=its m b (its m a i)
 | 0,b,i=>by rw[wY];rfl
 | a+1,b,i=>by rw[show a+1+b=(a+b)+1 by lia];exact f9 m a b _
def orb (m:Nat):Nat->Nat->List Nat
 | 0,_=>[]
 | n+1,i=>i :: orb m n (ste m i)
theorem jq (m:Nat):∀(n i j:Nat),j∈orb m n i->∃r,r<n/\its m r i=j
 | 0,i,j,h=>by cases h
 | n+1,i,j,h=>by
  rcases vn.mp h with h | h
  ·exact ⟨0,by lia,h.symm⟩
  ·obtain ⟨r,a,b⟩:=jq m n _ _ h
   exact ⟨r+1,by lia,b⟩
def whole (m:Nat):Bool:=((vC m).all λj=>(orb m m 0).contains j) && (its m m 0 == 0)
theorem mT {m:Nat}(h:whole m=true){i j:Nat}(hi:i<m)(hj:j<m):∃r,r<m/\its m r i=j:=by
 unfold whole at h
 rw[vZ,yx,beq_iff_eq] at h
 obtain ⟨h1,h2⟩:=h
 obtain ⟨a,a1,a2⟩:=jq m m 0 i (z4.mp (h1 i (vY.mpr hi)))
 obtain ⟨b,b1,b2⟩:=jq m m 0 j (z4.mp (h1 j (vY.mpr hj)))
 by_cases hab:a<=b
 ·refine ⟨b-a,by lia,?_⟩
  rw[<- a2, <- f9,show a+(b-a)=b by lia]
  exact b2
 ·refine ⟨m+b-a,by lia,?_⟩
  rw[<- a2, <- f9,show a+(m+b-a)=m+b by lia,f9,h2]
  exact b2
theorem si:whole 8=true:=by decide +kernel
theorem p6:whole 32=true:=by decide +kernel
theorem oF:whole 128=true:=by decide +kernel
theorem oG:whole 512=true:=by decide +kernel
def Msk (mask:Nat):Prop:=mask=7\/mask=31\/mask=127\/mask=511
theorem Msk.whole {mask:Nat}(h:Msk mask):whole (mask+1)=true:=by
 rcases h with rfl | rfl | rfl | rfl
 ·exact si
 ·exact p6
 ·exact oF
 ·exact oG
theorem iP (mask:Nat):∀(r i:Nat),bM mask r (i,0)=(its (mask+1) r i,0)
 | 0,i=>rfl
 | r+1,i=>by
  show bM mask r (leap mask i 0)=_
  rw[show leap mask i 0=(ste (mask+1) i,0) from rfl,iP mask r];rfl
theorem p7 (h:Int):bits h<2 ^ 64:=by
 unfold bits
 have h1:=wZ h (show (0:Int)<2 ^ 64 by decide)
 have h0:=xH h (show (2 ^ 64:Int)≠0 by decide)
 have:((2 ^ 64:Nat):Int)=2 ^ 64:=by decide
 lia
theorem gE {mask:Nat}(hm:Msk mask){h:Int}{j:Nat}(hj:j<=mask):∃k,k<turns mask/\(bM mask k (bits h%(mask+1),bits h)).1=j:=by
 have p0:(bM mask 13 (bits h%(mask+1),bits h)).2=0:=by
  rw[dY]
  exact Nat.div_eq_of_lt (uG (p7 h) (by decide))
 have i0:=jV mask 13 (bits h%(mask+1)) (bits h) (xO (yq _ (yg mask)))
 obtain ⟨r,r1,r2⟩:=mT hm.whole (i:=(bM mask 13 (bits h%(mask+1),bits h)).1) (j:=j) (by lia) (by lia)
 refine ⟨13+r,by unfold turns;lia,?_⟩
 rw[iO,show bM mask 13 (bits h%(mask+1),bits h)=((bM mask 13 (bits h%(mask+1),bits h)).1,0) from B3 rfl p0,iP]
 exact r2
theorem oH {mask:Nat}(hm:Msk mask)(oc:Nat->Prop)(h:Int){j:Nat}(hj:j<=mask)(he:¬ oc j):∃n q,n<10*turns mask/\Way oc mask n (start mask h) q/\¬ oc q.j/\q.j<=mask/\q.dummy=none:=by
 obtain ⟨k,k1,k2⟩:=gE hm (h:=h) hj
 obtain ⟨n,n1,n2⟩:=kS mask k (bits h%(mask+1)) (bits h)
 obtain ⟨n',q,a,b,c⟩:=mS oc mask n (start mask h) (by
  show ¬ oc (jm mask n (bZ mask _ _)).j
  rw[n2]
  show ¬ oc (bM mask k (bits h%(mask+1),bits h)).1
  rw[k2]
  exact he)
 exact ⟨n',q,by lia,b,c,b.le (jT mask h),b.dummy⟩
theorem iQ {mask n:Nat}(oc:Nat->Prop)(f:Nat->Nat)(hf:∀j,j<=mask->oc j->f j<n)(inj:∀i j,i<=mask->j<=mask->oc i->oc j->f i=f j->i=j)(hn:n<=mask):∃j,j<=mask/\¬ oc j:=by
 by_cases q:∃j,j<=mask/\¬ oc j
 ·exact q
 ·exfalso
  have all:∀j,j<=mask->oc j:=λj hj=>by
   by_cases o:oc j
   ·exact o
   ·exact absurd ⟨j,hj,o⟩ q
  have nd:((vC (mask+1)).map f).Nodup:=by
   unfold List.Nodup
   rw[vL]
   refine yh (λ{a b} ha hb hab e=>hab (inj a b ?_ ?_ (all _ ?_) (all _ ?_) e)) (Bl)
   all_goals (rw[vY] at ha hb;lia)
  have:=xr nd (l₂:=vC n) (λx hx=>by
   obtain ⟨j,hj,e⟩:=uH.mp hx
   rw[vY] at hj ⊢
   rw[<- e]
   exact hf j (by lia) (all j (by lia)))
  rw[ue,xP,xP] at this
  lia
open PySem PySem.SetTable
structure Tab (t:SetTable)(hs:Array Int):Prop where
 dm:t.dummies = #[]
 rise:jk t.place
 size:t.place.size=hs.size
 le:∀i j:Nat,t.place[i]? = some j->j<=t.mask
 msk:Msk t.mask
 fit:hs.size<=t.mask
 reach:∀(i j:Nat) (h:Int),t.place[i]? = some j->hs[i]? = some h->∃n q,Way (occ t) t.mask n (start t.mask h) q/\q.j=j
theorem cQ {α:Type}{xs:Array α}{i:Nat}{a:α}(h:xs[i]? = some a):i<xs.size:=by
 apply yb;intro q;rw[xC q] at h;cases h
theorem Tab.fill {t:SetTable}{hs:Array Int}(T:Tab t hs):t.fill=hs.size:=by
 unfold SetTable.fill;rw[T.dm,T.size];rfl
theorem Tab.fits {t:SetTable}{hs:Array Int}(T:Tab t hs):t.fits hs.size=true:=by
 unfold SetTable.fits
 rw[T.fill,T.size]
 simp[T.fit]
theorem Tab.ends {t:SetTable}{hs:Array Int}(T:Tab t hs)(h:Int):∃n q,n<10*turns t.mask/\Way (occ t) t.mask n (start t.mask h) q/\¬ occ t q.j/\q.j<=t.mask/\q.dummy=none:=by
 obtain ⟨j,hj,he⟩:=iQ (mask:=t.mask) (n:=hs.size) (occ t) (λj=>below t.place j)
  (λj _ ⟨i,e⟩=>by show below t.place j<hs.size;rw[below_at T.rise e, <- T.size];exact cQ e)
  (λi j _ _ ⟨a,ea⟩ ⟨b,eb⟩ e=>by
   have e':below t.place i=below t.place j:=e
   rw[below_at T.rise ea,below_at T.rise eb] at e'
   subst e'
   exact vw (ea.symm.trans eb)) T.fit
 exact oH T.msk (occ t) h hj he
theorem oI {t:SetTable}{hs:Array Int}(T:Tab t hs){H:Nat->Int}{h:Int}:∀(n:Nat) (p q:Probe) (fuel:Nat),Way (occ t) t.mask n p q->¬ occ t q.j->n<fuel->p.dummy=none →
  (SetTable.probe.go t H h fuel p=some (.empty q.j none)/\∀k r i,Way (occ t) t.mask k p r->t.place[i]? = some r.j->H i≠h) ∨
  (∃k r i,k<n/\Way (occ t) t.mask k p r/\t.place[i]? = some r.j/\H i=h/\SetTable.probe.go t H h fuel p=some (.candidate r.j i (adv t.mask r))/\Way (occ t) t.mask (n-k-1) (adv t.mask r) q/\(adv t.mask r).dummy=none
   /\ ∀k' r' i',k'<k->Way (occ t) t.mask k' p r'->t.place[i']? = some r'.j->H i'≠h):=by
 intro n
 induction n with
 | zero =>
  intro p q fuel W he hf hd
  cases W
  obtain ⟨fuel,rfl⟩:∃f,fuel=f+1:=⟨fuel-1,by lia⟩
  refine .inl ⟨?_,λk r i Wr er =>?_⟩
  ·unfold SetTable.probe.go
   rw[kR T.dm he]
   dsimp only
   rw[hd]
  ·cases Wr with
   | here=>exact absurd ⟨i,er⟩ he
   | step a _=>exact absurd a he
 | succ n ih =>
  intro p q fuel W he hf hd
  obtain ⟨fuel,rfl⟩:∃f,fuel=f+1:=⟨fuel-1,by lia⟩
  cases W with
  | step a W =>
   obtain ⟨i,ei⟩:=a
   have hd':(adv t.mask p).dummy=none:=by rw[<- hd];unfold adv;split <;> rfl
   by_cases hh:H i=h
   ·refine .inr ⟨0,p,i,by lia,.here p,ei,hh,?_,W,hd',λk' r' i' hk=>by lia⟩
    unfold SetTable.probe.go
    rw[fA T.rise ei]
    dsimp only
    rw[if_pos (by rw[hh];exact beq_self_eq_true h)]
    rfl
   ·have e0:SetTable.probe.go t H h (fuel+1) p=SetTable.probe.go t H h fuel (adv t.mask p):=by
     conv=>lhs;unfold SetTable.probe.go
     rw[fA T.rise ei]
     dsimp only
     rw[if_neg (by rw[beq_iff_eq];exact hh)]
     rfl
    rcases ih (adv t.mask p) q fuel W he (by lia) hd' with ⟨r1,r2⟩ | ⟨k,r,i',k1,w1,e1,h1,g1,w2,d2,no⟩
    ·refine .inl ⟨e0.trans r1,λk r j Wr er =>?_⟩
     cases Wr with
     | here =>
      obtain rfl:i=j:=by
       have x:=below_at T.rise ei
       have y:=below_at T.rise er
       exact x.symm.trans y
      exact hh
     | step _ Wr=>exact r2 _ _ _ Wr er
    ·refine .inr ⟨k+1,r,i',by lia,.step ⟨i,ei⟩ w1,e1,h1,e0.trans g1,by rw[show n+1-(k+1)-1=n-k-1 by lia];exact w2,d2,λk' r' j hk Wr er =>?_⟩
     cases Wr with
     | here =>
      obtain rfl:i=j:=by
       have x:=below_at T.rise ei
       have y:=below_at T.rise er
       exact x.symm.trans y
      exact hh
     | step _ Wr=>exact no _ _ _ (by lia) Wr er
theorem oJ {t:SetTable}{hs:Array Int}(T:Tab t hs){H:Nat->Int}{h:Int}{n:Nat}{p q:Probe}(W:Way (occ t) t.mask n p q)(he:¬ occ t q.j)(hn:n<10*turns t.mask)(hd:p.dummy=none) :
  (t.probe H h p=some (.empty q.j none)/\∀k r i,Way (occ t) t.mask k p r->t.place[i]? = some r.j->H i≠h) ∨
  (∃k r i,k<n/\Way (occ t) t.mask k p r/\t.place[i]? = some r.j/\H i=h/\t.probe H h p=some (.candidate r.j i (adv t.mask r))/\Way (occ t) t.mask (n-k-1) (adv t.mask r) q/\(adv t.mask r).dummy=none
   /\ ∀k' r' i',k'<k->Way (occ t) t.mask k' p r'->t.place[i']? = some r'.j->H i'≠h) :=
 oI T n p q _ W he hn hd
theorem Tab.sj {t:SetTable}{hs:Array Int}(T:Tab t hs)(j:Nat):t.put j=({ t with place:=insertAt t.place (below t.place j) j },below t.place j):=by
 unfold SetTable.put
 dsimp only
 have:has t.dummies j=false:=by rw[T.dm];simp[has]
 rw[this]
 rfl
theorem Tab.put {t:SetTable}{hs:Array Int}(T:Tab t hs){h:Int}{n:Nat}{q:Probe}(W:Way (occ t) t.mask n (start t.mask h) q)(he:¬ occ t q.j)(hq:q.j<=t.mask)(hf:hs.size+1<=t.mask) :
  Tab { t with place:=insertAt t.place (below t.place q.j) q.j } (insertAt hs (below t.place q.j) h):=by
 have hp:=(cx T.rise q.j).1
 have hp':below t.place q.j<=hs.size:=by rw[<- T.size];exact hp
 have up:∀j,occ t j->occ { t with place:=insertAt t.place (below t.place q.j) q.j } j:=by
  rintro j ⟨i,e⟩
  by_cases l:i<below t.place q.j
  ·exact ⟨i,by show (insertAt _ _ _)[i]? = _;rw[bJ _ hp,if_pos l];exact e⟩
  ·exact ⟨i+1,by show (insertAt _ _ _)[i+1]? = _;rw[bJ _ hp,if_neg (by lia),if_neg (by lia)];exact e⟩
 refine ⟨T.dm,ib T.rise λi e=>he ⟨i,e⟩,?_,λi j e =>?_,T.msk,by rw[bY];exact hf,λi j h' e eh =>?_⟩
 ·show (insertAt _ _ _).size=_
  rw[bY,bY,T.size]
 ·have e':(insertAt t.place (below t.place q.j) q.j)[i]? = some j:=e
  rw[bJ _ hp] at e'
  split at e'
  ·exact T.le _ _ e'
  ·split at e'
   ·cases e';exact hq
   ·exact T.le _ _ e'
 ·have e':(insertAt t.place (below t.place q.j) q.j)[i]? = some j:=e
  rw[bJ _ hp] at e'
  rw[bJ _ hp'] at eh
  by_cases l1:i<below t.place q.j
  ·rw[if_pos l1] at e' eh
   obtain ⟨n',q',w,eq⟩:=T.reach _ _ _ e' eh
   exact ⟨n',q',w.mono up,eq⟩
  ·rw[if_neg l1] at e' eh
   by_cases l2:i=below t.place q.j
   ·rw[if_pos l2] at e' eh
    cases e';cases eh
    exact ⟨n,q,W.mono up,rfl⟩
   ·rw[if_neg l2] at e' eh
    obtain ⟨n',q',w,eq⟩:=T.reach _ _ _ e' eh
    exact ⟨n',q',w.mono up,eq⟩
def ocw (owner:Array (Option Nat))(j:Nat):Prop:=∃k,owner[j]? = some (some k)
theorem Way.trans {oc:Nat->Prop}{mask n m:Nat}{p q r:Probe}(h:Way oc mask n p q)(h2:Way oc mask m q r):∃k,Way oc mask k p r:=by
 induction h with
 | here=>exact ⟨m,h2⟩
 | step a _ ih=>obtain ⟨k,w⟩:=ih h2;exact ⟨k+1,.step a w⟩
theorem js (oc:Nat->Prop)(mask:Nat):∀(k:Nat) (p:Probe),k<=p.more->(∀k',k'<k->oc (p.j+k'))->Way oc mask k p { p with j:=p.j+k,more:=p.more-k }
 | 0,p,_,_ =>.here p
 | k+1,p,h,ho=>by
  have e:adv mask p={ p with j:=p.j+1,more:=p.more-1 }:=by unfold adv;rw[if_pos (by lia)]
  refine .step (ho 0 (by lia)) ?_
  rw[e]
  have:=js oc mask k { p with j:=p.j+1,more:=p.more-1 } (by dsimp only;lia) λk' hk=>by
   have:=ho (k'+1) (by lia)
   rw[show p.j+(k'+1)=p.j+1+k' by lia] at this
   exact this
  dsimp only at this
  rw[show p.j+1+k=p.j+(k+1) by lia,show p.more-1-k=p.more-(k+1) by lia] at this
  exact this
theorem dw {owner:Array (Option Nat)}{mask j:Nat}(hs:owner.size=mask+1)(hj:j<=mask):(owner.getD j (some 0)).isNone=true↔¬ ocw owner j:=by
 have hl:j<owner.size:=by lia
 have e:owner[j]? = some owner[j]:=u0 hl
 rw[show owner.getD j (some 0)=owner[j] by simp[Array.getD,hl]]
 unfold ocw
 rw[e]
 cases owner[j] with
 | none=>simp
 | some k=>simp
theorem iR {mask i:Nat}(h:i<=mask):runEnd mask i<=mask/\i<=runEnd mask i:=by
 unfold runEnd;split <;> lia
theorem mU {mask:Nat}{owner:Array (Option Nat)}(hs:owner.size=mask+1):∀(fuel i pe j:Nat),i<=mask->SetTable.layClean.free mask owner fuel i pe=some j →
  ¬ ocw owner j/\∃n q,Way (ocw owner) mask n (bZ mask i pe) q/\q.j=j:=by
 intro fuel
 induction fuel with
 | zero=>intro i pe j hi h;unfold SetTable.layClean.free at h;cases h
 | succ fuel ih =>
  intro i pe j hi h
  unfold SetTable.layClean.free at h
  obtain ⟨r1,r2⟩:=iR hi
  have no:∀k,k<runEnd mask i+1-i->((owner.getD (i+k) (some 0)).isNone=false)->ocw owner (i+k):=λk hk e=>by
   by_cases o:ocw owner (i+k)
   ·exact o
   ·rw[(dw hs (by lia)).mpr o] at e;cases e
  cases hf:(vC (runEnd mask i+1-i)).find? λk=>(owner.getD (i+k) (some 0)).isNone with
  | some k =>
   rw[hf] at h
   dsimp only at h
   cases h
   rw[List.find?_range_eq_some] at hf
   obtain ⟨f1,f2,f3⟩:=hf
   rw[vY] at f2
   refine ⟨(dw hs (by lia)).mp f1,k,_,js (ocw owner) mask k (bZ mask i pe) (by show k<=runEnd mask i-i;lia) λk' hk =>?_,rfl⟩
   refine no k' (by lia) ?_
   have:=f3 k' hk
   simpa using this
  | none =>
   rw[hf] at h
   dsimp only at h
   rw[zo] at hf
   have all:∀k,k<runEnd mask i+1-i->ocw owner (i+k):=λk hk=>no k hk (by simpa using hf k hk)
   obtain ⟨g1,n,q,w,eq⟩:=ih _ _ _ (xO (yq _ (yg mask))) h
   refine ⟨g1,?_⟩
   have w0:=js (ocw owner) mask (runEnd mask i-i) (bZ mask i pe) (ur _) λk' hk=>all k' (by lia)
   have w1:Way (ocw owner) mask (n+1) { (bZ mask i pe) with j:=(bZ mask i pe).j+(runEnd mask i-i),more:=(bZ mask i pe).more-(runEnd mask i-i) } q:=by
    refine .step (all (runEnd mask i-i) (by lia)) ?_
    have e:adv mask { (bZ mask i pe) with j:=(bZ mask i pe).j+(runEnd mask i-i),more:=(bZ mask i pe).more-(runEnd mask i-i) }=bZ mask (leap mask i pe).1 (leap mask i pe).2:=by
     unfold adv
     rw[if_neg (by show ¬ (runEnd mask i-i-(runEnd mask i-i))>0;lia)]
     rfl
    rw[e]
    exact w
   obtain ⟨k,w2⟩:=w0.trans w1
   exact ⟨k,q,w2,eq⟩
theorem mV {mask:Nat}{owner:Array (Option Nat)}(hs:owner.size=mask+1):∀(fuel i pe k:Nat),i<=mask->k<fuel->¬ ocw owner (bM mask k (i,pe)).1->∃j,SetTable.layClean.free mask owner fuel i pe=some j:=by
 intro fuel
 induction fuel with
 | zero=>intro i pe k _ h;lia
 | succ fuel ih =>
  intro i pe k hi hk he
  unfold SetTable.layClean.free
  obtain ⟨r1,r2⟩:=iR hi
  cases hf:(vC (runEnd mask i+1-i)).find? λk=>(owner.getD (i+k) (some 0)).isNone with
  | some k=>exact ⟨_,rfl⟩
  | none =>
   dsimp only
   rw[zo] at hf
   cases k with
   | zero =>
    have h0:=hf 0 (by lia)
    have:(owner.getD (i+0) (some 0)).isNone=true:=(dw hs (by lia)).mpr he
    rw[this] at h0
    cases h0
   | succ k=>exact ih _ _ k (xO (yq _ (yg mask))) (by lia) he
structure Own (mask:Nat)(owner:Array (Option Nat))(hs:List Int):Prop where
 size:owner.size=mask+1
 cov:∀(k:Nat) (h:Int),hs[k]? = some h->∃j n q,owner[j]? = some (some k)/\Way (ocw owner) mask n (start mask h) q/\q.j=j
 bnd:∀j k:Nat,owner[j]? = some (some k)->k<hs.length
 inj:∀i j k:Nat,owner[i]? = some (some k)->owner[j]? = some (some k)->i=j
theorem Own.step {mask:Nat}(hm:Msk mask){owner:Array (Option Nat)}{hs:List Int}(O:Own mask owner hs)(h:Int)(hl:hs.length<=mask) :
  ∃j,SetTable.layClean.free mask owner (turns mask) (bits h%(mask+1)) (bits h)=some j/\Own mask (owner.setIfInBounds j (some hs.length)) (hs++[h]):=by
 obtain ⟨e,he,hne⟩:=iQ (mask:=mask) (n:=hs.length) (ocw owner) (λj=>(owner.getD j none).getD 0)
  (λj _ ⟨k,ek⟩=>by
   have:=cQ ek
   show (owner.getD j none).getD 0<_
   rw[show owner.getD j none=some k by rw[wo,ek];rfl]
   exact O.bnd j k ek)
  (λi j _ _ ⟨a,ea⟩ ⟨b,eb⟩ q=>by
   have q':(owner.getD i none).getD 0=(owner.getD j none).getD 0:=q
   rw[show owner.getD i none=some a by rw[wo,ea];rfl,show owner.getD j none=some b by rw[wo,eb];rfl] at q'
   have q'':a=b:=q'
   subst q''
   exact O.inj i j a ea eb) hl
 have i0:bits h%(mask+1)<=mask:=xO (yq _ (yg mask))
 obtain ⟨k,k1,k2⟩:=gE hm (h:=h) he
 obtain ⟨j,hj⟩:=mV O.size (turns mask) _ _ k i0 k1 (by rw[k2];exact hne)
 obtain ⟨hno,n,q,w,eq⟩:=mU O.size _ _ _ _ i0 hj
 have hjm:j<=mask:=by rw[<- eq];exact w.le (jT mask h)
 have hjs:j<owner.size:=by rw[O.size];lia
 have ej:owner[j]? = some none:=by
  rw[u0 hjs]
  cases ho:owner[j] with
  | none=>rfl
  | some k=>exact absurd ⟨k,by rw[u0 hjs,ho]⟩ hno
 have get:∀i:Nat,(owner.setIfInBounds j (some hs.length))[i]? = if i=j then some (some hs.length) else owner[i]? := λi=>by
  rw[Array.getElem?_setIfInBounds]
  by_cases q:j=i
  ·rw[if_pos q,if_pos q.symm,if_pos hjs]
  ·rw[if_neg q,if_neg (w6 q)]
 have up:∀i,ocw owner i->ocw (owner.setIfInBounds j (some hs.length)) i:=by
  rintro i ⟨k,ek⟩
  refine ⟨k,?_⟩
  rw[get,if_neg (λq=>by rw[q,ej] at ek;cases ek)]
  exact ek
 refine ⟨j,hj,by rw[zj];exact O.size,λk h' eh =>?_,λi k ek =>?_,λi i' k ei ei' =>?_⟩
 ·by_cases lk:k<hs.length
  ·rw[wA lk] at eh
   obtain ⟨j',n',q',a,b,c⟩:=O.cov k h' eh
   refine ⟨j',n',q',?_,b.mono up,c⟩
   rw[get,if_neg (λq=>by rw[q,ej] at a;cases a)]
   exact a
  ·rw[wW (by lia)] at eh
   have:k-hs.length=0:=by
    cases hk:k-hs.length with
    | zero=>rfl
    | succ m=>rw[hk] at eh;cases eh
   rw[this] at eh
   cases eh
   obtain rfl:k=hs.length:=by lia
   exact ⟨j,n,q,by rw[get,if_pos rfl],w.mono up,eq⟩
 ·rw[uv,vF]
  rw[get] at ek
  split at ek
  ·cases ek;lia
  ·have:=O.bnd _ _ ek;lia
 ·rw[get] at ei ei'
  by_cases q1:i=j
  ·by_cases q2:i'=j
   ·rw[q1,q2]
   ·rw[if_pos q1] at ei;rw[if_neg q2] at ei'
    cases ei
    have:=O.bnd _ _ ei';lia
  ·rw[if_neg q1] at ei
   by_cases q2:i'=j
   ·rw[if_pos q2] at ei'
    cases ei'
    have:=O.bnd _ _ ei;lia
   ·rw[if_neg q2] at ei'
    exact O.inj _ _ _ ei ei'
theorem jW {mask:Nat}(hm:Msk mask):∀(l:List Int) (owner:Array (Option Nat)) (hs:List Int),Own mask owner hs->hs.length+l.length<=mask+1 →
    ∃owner',l.foldl (λacc h=>do
      let (owner,k) ← acc
      let j ← SetTable.layClean.free mask owner (turns mask) (bits h%(mask+1)) (bits h)
      pure (owner.setIfInBounds j (some k),k+1)) (some (owner,hs.length))=some (owner',hs.length+l.length)/\Own mask owner' (hs++l)
  | [],owner,hs,O,_=>⟨owner,rfl,by rw[vE];exact O⟩
  | h :: l,owner,hs,O,hl=>by
    rw[vh] at hl
    obtain ⟨j,hj,O'⟩:=O.step hm h (by lia)
    obtain ⟨owner',e,O''⟩:=jW hm l _ _ O' (by rw[uv,vF];lia)
    refine ⟨owner',?_,by rw[vp] at O'';exact O''⟩
    rw[Bq]
    have:(do
      let (owner,k) ← some (owner,hs.length)
      let j ← SetTable.layClean.free mask owner (turns mask) (bits h%(mask+1)) (bits h)
      pure (owner.setIfInBounds j (some k),k+1):Option (Array (Option Nat)×Nat))=some (owner.setIfInBounds j (some hs.length),(hs++[h]).length):=by
      show (SetTable.layClean.free mask owner (turns mask) (bits h%(mask+1)) (bits h)).bind _=_
      rw[hj,uv]
      rfl
    rw[this,e]
    rw[uv,vF,vh]
    congr 2
    lia
theorem jX {mask:Nat}(hm:Msk mask)(hs:Array Int)(hl:hs.size<=mask+1):∃owner,SetTable.layClean mask hs=some owner/\Own mask owner hs.toList:=by
  have O0:Own mask (Array.replicate (mask+1) none) []:=by
    refine ⟨by simp,λk h e=>by simp at e,λj k e =>?_,λi j k e =>?_⟩
    · rw[zp] at e;split at e <;> cases e
    · rw[zp] at e;split at e <;> cases e
  obtain ⟨owner,e,O⟩:=jW hm hs.toList _ [] O0 (by rw[yI,uo];lia)
  refine ⟨owner,?_,by rw[yJ] at O;exact O⟩
  unfold SetTable.layClean
  rw[<- Array.foldl_toList]
  have e':hs.toList.foldl (λacc h=>do
      let (owner,k) ← acc
      let j ← SetTable.layClean.free mask owner (turns mask) (bits h%(mask+1)) (bits h)
      pure (owner.setIfInBounds j (some k),k+1)) (some (Array.replicate (mask+1) none,0))=some (owner,0+hs.toList.length):=e
  rw[e']
  rfl
theorem filterMap_get {α β:Type}{f:α -> Option β}:∀(l:List α),(∀x∈l,(f x).isSome=true)->∀i:Nat,(l.filterMap f)[i]? = l[i]?.bind f
 | [],_,i=>by simp
 | x :: l,h,i=>by
  obtain ⟨y,hy⟩:=zf.mp (h x uZ)
  rw[List.filterMap_cons_some hy]
  cases i with
  | zero=>simp[hy]
  | succ i =>
   rw[wN,wN]
   exact filterMap_get l (λz hz=>h z (u6 _ hz)) i
theorem p8 {mask:Nat}(hm:Msk mask)(finger moves:Nat)(led plain:Bool)(es:Array (Int×ug))(hl:es.size<=mask) :
  ∃t order,SetTable.laid mask finger moves led plain (es.map (·.1))=some (t,order)/\order.toList.Perm (vC es.size)/\Tab t ((order.filterMap (es[·]?)).map (·.1))/\(order.filterMap (es[·]?)).toList.Perm es.toList/\t.led=led/\t.plain=plain/\t.mask=mask:=by
 obtain ⟨owner,e,O⟩:=jX hm (es.map (·.1)) (by rw[v3];lia)
 refine ⟨_,_,by unfold SetTable.laid;rw[e];rfl,?_⟩
 generalize hlive:((vC (mask+1)).filterMap λj=>(owner.getD j none).map (j, ·))=live
 have mem:∀j k,(j,k)∈live↔owner[j]? = some (some k):=λj k=>by
  rw[<- hlive,yk]
  constructor
  ·rintro ⟨a,ha,ea⟩
   rw[wo] at ea
   cases ho:owner[a]? with
   | none=>rw[ho] at ea;cases ea
   | some x =>
    rw[ho] at ea
    cases x with
    | none=>cases ea
    | some k'=>cases ea;exact ho
  ·intro ho
   refine ⟨j,?_,?_⟩
   ·rw[vY, <- O.size];exact cQ ho
   ·rw[wo,ho];rfl
 have pw:live.Pairwise (λa b=>a.1<b.1):=by
  rw[<- hlive,List.pairwise_filterMap]
  refine B4 (λ{a b} hab x hx y hy =>?_) zS
  have hx':x.1=a:=by cases ho:owner.getD a none with
   | none=>rw[ho] at hx;cases hx
   | some k=>rw[ho] at hx;cases hx;rfl
  have hy':y.1=b:=by cases ho:owner.getD b none with
   | none=>rw[ho] at hy;cases hy
   | some k=>rw[ho] at hy;cases hy;rfl
  rw[hx',hy'];exact hab
 have nd:(live.map (·.2)).Nodup:=by
  unfold List.Nodup
  rw[vL]
  refine yh (λ{a b} ha hb hab q =>?_) pw
  have:=O.inj a.1 b.1 a.2 ((mem _ _).mp ha) (by rw[q];exact (mem _ _).mp hb)
  lia
 have hlen:(es.map (·.1)).toList.length=es.size:=by rw[uo,v3]
 have perm:(live.map (·.2)).Perm (vC es.size):=by
  rw[yR nd Bl]
  intro k
  rw[vY,uH]
  constructor
  ·rintro ⟨⟨j,k'⟩,hm',rfl⟩
   have:=O.bnd _ _ ((mem _ _).mp hm')
   rw[hlen] at this
   exact this
  ·intro hk
   obtain ⟨j,_,_,ej,_⟩:=O.cov k _ (ux (by rw[hlen];exact hk))
   exact ⟨(j,k),(mem _ _).mpr ej,rfl⟩
 have all:∀x∈live.map (·.2),(es[x]?).isSome=true:=λx hx=>by
  have:=(perm.mem_iff).mp hx
  rw[vY] at this
  rw[u0 this];rfl
 have tl:(live.map (·.2)).toArray.toList=live.map (·.2):=rfl
 have ll:live.length=es.size:=by have:=perm.length_eq;rw[ue,xP] at this;exact this
 have fm:((live.map (·.2)).toArray.filterMap (es[·]?)).toList=(live.map (·.2)).filterMap (es[·]?):=by simp
 have fl:((live.map (·.2)).filterMap (es[·]?)).Perm es.toList:=by
  have p1:=perm.filterMap (es[·]?)
  have:(vC es.size).filterMap (es[·]?)=es.toList:=by
   apply AW
   intro i
   rw[filterMap_get _ (λx hx=>by rw[vY] at hx;rw[u0 hx];rfl)]
   by_cases hi:i<es.size
   ·rw[Ap hi,uz];rfl
   ·rw[xI (by rw[xP];lia),xI (by rw[uo];lia)];rfl
  rw[this] at p1
  exact p1
 refine ⟨perm,?_,by rw[fm];exact fl,rfl,rfl,rfl⟩
 have sz:(((live.map (·.2)).toArray.filterMap (es[·]?)).map (·.1)).size=es.size:=by
  rw[v3, <- uo,fm,fl.length_eq,uo]
 have occ_of:∀j,ocw owner j->occ { mask:=mask,place:=(live.map (·.1)).toArray,dummies := #[],finger:=finger,led:=led,moves:=moves,plain:=plain } j:=by
  rintro j ⟨k,ek⟩
  obtain ⟨i,hi,ei⟩:=Aq ((mem j k).mpr ek)
  refine ⟨i,?_⟩
  show (live.map (·.1)).toArray[i]? = some j
  rw[w4,uF,ux hi,ei]
  rfl
 refine ⟨rfl,λi j a b ea eb hij =>?_,?_,λi j ej =>?_,hm,by rw[sz];exact hl,λi j h ej eh =>?_⟩
 ·have ea':(live.map (·.1)).toArray[i]? = some a:=ea
  have eb':(live.map (·.1)).toArray[j]? = some b:=eb
  rw[w4] at ea' eb'
  have pw':(live.map (·.1)).Pairwise (· < ·):=by rw[vL];exact pw
  obtain ⟨hi,xi⟩:=um.mp ea'
  obtain ⟨hj,xj⟩:=um.mp eb'
  rw[<- xi, <- xj]
  exact xY.mp pw' i j hi hj hij
 ·show (live.map (·.1)).toArray.size=_
  rw[sz,uu,ue,ll]
 ·have ej':(live.map (·.1)).toArray[i]? = some j:=ej
  rw[w4,uF] at ej'
  cases hx:live[i]? with
  | none=>rw[hx] at ej';cases ej'
  | some x =>
   rw[hx] at ej'
   cases ej'
   have:=cQ ((mem x.1 x.2).mp (uS hx))
   show x.1<=mask
   rw[O.size] at this
   lia
 ·have ej':(live.map (·.1)).toArray[i]? = some j:=ej
  rw[w4,uF] at ej'
  cases hx:live[i]? with
  | none=>rw[hx] at ej';cases ej'
  | some x =>
   rw[hx] at ej'
   cases ej'
   have ho:=(mem x.1 x.2).mp (uS hx)
   have hk:=O.bnd _ _ ho
   rw[AH, <- uz,fm,filterMap_get _ all,uF,hx] at eh
   have eh':(es[x.2]?).map (·.1)=some h:=eh
   obtain ⟨j',n,q,a,b,c⟩:=O.cov x.2 h (by rw[yA,uF,uz];exact eh')
   obtain rfl:=O.inj _ _ _ ho a
   exact ⟨n,q,b.mono occ_of,c⟩
open PySem PySem.SetTable PyProof.Rows
section
variable  {prog:uM}{w:vt}{A:vz}{E:ug->uj->Prop}{s:uj}
abbrev TK (prog:uM)(w:vt):=IsTupleKey (prog:=prog) (w:=w) (intKind prog w)
def bK (prog:uM)(w:vt)(ks:List Int):Int:=tupleKeyHash (intKind prog w) ks
def aF (es:Array (Int×ug))(ep:Nat)(t:SetTable):Obj:={ cls :=.type "set",dict:=none,data :=.set es ep t }
def ElT (prog:uM)(w:vt)(h:Heap)(e:Int×ug)(ks:List Int):Prop:=∃b,e=(bK prog w ks,.ref b)/\TK prog w h ks b
theorem jt (d:Nat){v:ug}(h:carriedByValue v=true):ofAClassStatement d v=pure false:=by
 cases v with
 | ref a=>simp[carriedByValue] at h
 | _=>cases d <;> rfl
theorem eW {ks:List Int}{b:Addr}{Q:Bool->uj->Prop}(hk:TK prog w s.heap ks b)(h:Q false s):vm (vk prog w) A (ofAClassStatement 8 (.ref b)) Q E s:=by
 have hT:=hk.typeIs
 obtain ⟨o,items,n,ho,_,hd,hi⟩:=hk
 unfold ofAClassStatement
 refine uf (yU hT ?_)
 dsimp only
 rw[if_pos (by decide)]
 refine uf (uD ?_)
 simp only[v5,uQ,if_false]
 refine uf (wpAny_seqItems ho hd ?_)
 dsimp only
 refine uf ?_
 rw[<- AI]
 refine zO _ (λrest r s'=>r.1=none/\s'=s/\∀v∈rest,carriedByValue v=true) _ ?_ ?_ _ _ ⟨rfl,rfl,hi.byValue⟩
 ·rintro v rest r s' ⟨hr,rfl,hall⟩
  rw[jt _ (hall v uZ)]
  refine uf (uD ?_)
  simp only[uQ,if_false]
  exact uD ⟨rfl,rfl,λu hu'=>hall u (u6 _ hu')⟩
 ·rintro ⟨r1,r2⟩ s' ⟨hr,rfl,_⟩
  simp only at hr
  subst hr
  exact uD h
theorem sk {ks:List Int}{b:Addr}{vs:List ug}{Q:Bool->uj->Prop}(hk:TK prog w s.heap ks b)(hv:∀v∈vs,∃ks' b',v = .ref b'/\TK prog w s.heap ks' b')(h:Q false s) :
  vm (vk prog w) A (searchCouldBeSeen (.ref b) vs) Q E s:=by
 unfold searchCouldBeSeen
 refine uf ?_
 refine zO _ (λrest r s'=>r.1=none/\s'=s/\∀v∈rest,∃ks' b',v = .ref b'/\TK prog w s.heap ks' b') _ ?_ ?_ _ _ ⟨rfl,rfl,hv⟩
 ·rintro v rest r s' ⟨hr,rfl,hall⟩
  obtain ⟨ks',b',rfl,hk'⟩:=hall v uZ
  have go:∀u∈rest,∃ks' b',u = .ref b'/\TK prog w s'.heap ks' b':=λu hu'=>hall u (u6 _ hu')
  dsimp only
  split
  ·exact uD ⟨rfl,rfl,go⟩
  ·refine uf (z8 hk ?_)
   simp only[v5,uQ,if_false]
   refine uf (z8 hk' ?_)
   simp only[v5,uQ,if_false]
   refine uf (eW hk ?_)
   simp only[uQ,if_false]
   refine uf (eW hk' ?_)
   simp only[uQ,if_false]
   exact uD ⟨rfl,rfl,go⟩
 ·rintro ⟨r1,r2⟩ s' ⟨hr,rfl,_⟩
  simp only at hr
  subst hr
  exact uD h
theorem p9 {m:Nat}(h:Msk m):(m%2 == 0)=false:=by rcases h with rfl | rfl | rfl | rfl <;> rfl
theorem bh {a:Addr}{es:Array (Int×ug)}{ep:Nat}{t:SetTable}{Q:(Array (Int×ug)×Nat×SetTable)->uj->Prop}(ho:s.heap.get? a=some (aF es ep t))(T:Tab t (es.map (·.1)))(h:Q (es,ep,t) s) :
  vm (vk prog w) A (setState a) Q E s:=wpAny_setState_of ho rfl (by have:=T.fits;rwa [v3] at this) h
theorem kT (es:Array (Int×ug))(i:Nat)(e:Int×ug)(h:es[i]? = some e):(es.map (·.1))[i]? = some e.1:=by rw[AH,h];rfl
theorem Way.split {oc:Nat->Prop}{mask k:Nat}{p r:Probe}(h:Way oc mask k p r):∀{k':Nat} {r':Probe},Way oc mask k' p r'->k<=k'->Way oc mask (k'-k) r r':=by
 induction h with
 | here p=>intro k' r' h2 _;exact h2
 | @step n p q a _ ih =>
  intro k' r' h2 l
  cases h2 with
  | here=>lia
  | @step m _ _ _ h2=>rw[show m+1-(n+1)=m-n by lia];exact ih h2 (by lia)
theorem kU {a b:Addr}{es:Array (Int×ug)}{ep:Nat}{t:SetTable}{ks:List Int}{Q:SetFound->uj->Prop}(hu:A.units<cLine)(ho:s.heap.get? a=some (aF es ep t))(T:Tab t (es.map (·.1)))
    (els:∀e∈es,∃ks',ElT prog w s.heap e ks') (hk:TK prog w s.heap ks b) {q:Probe} (he:¬ occ t q.j) :
    ∀(fuel n:Nat) (st:Option Probe) (p:Probe),st.getD (start t.mask (bK prog w ks))=p->Way (occ t) t.mask n p q->n<fuel->n<10*turns t.mask->p.dummy=none →
      ((∃(k:Nat) (r:Probe) (i:Nat) (e:Int×ug),Way (occ t) t.mask k p r/\t.place[i]? = some r.j/\es[i]? = some e/\ElT prog w s.heap e ks)->Q (.there none) s) →
      ((¬ ∃(k:Nat) (r:Probe) (i:Nat) (e:Int×ug),Way (occ t) t.mask k p r/\t.place[i]? = some r.j/\es[i]? = some e/\ElT prog w s.heap e ks)->Q (.free q.j false) s) →
      vm (vk prog w) A (setSearchFrom a (.ref b) (bK prog w ks) true fuel st) Q E s:=by
  intro fuel
  induction fuel with
  | zero=>intro n st p _ _ h;omega
  | succ fuel ih =>
    intro n st p hst W hn hn2 hd hit mis
    unfold setSearchFrom
    refine uf (bh ho T ?_)
    dsimp only
    rw[show t.gaveWay=false from p9 T.msk]
    simp only[uQ,if_false]
    rw[show st.getD (t.probeStart (bK prog w ks))=p from hst]
    rcases oJ T (H:=λi=>(es[i]?.map (·.1)).getD 0) (h:=bK prog w ks) W he hn2 hd with ⟨g,no⟩ | ⟨k,r,i,k1,w1,e1,h1,g,w2,d2,no⟩
    · erw [g]
      dsimp only
      refine uD (mis ?_)
      rintro ⟨k,r,i,e,wr,er,ee,eb,rfl,_⟩
      refine no k r i wr er ?_
      show (es[i]?.map (·.1)).getD 0=_
      rw[ee]
      rfl
    · erw [g]
      dsimp only
      have hi:i<es.size:=by have:=cQ e1;rw[T.size,v3] at this;exact this
      have ee:es[i]? = some es[i]:=u0 hi
      obtain ⟨ks',b',eq,hk'⟩:=els es[i] (zq hi)
      rw[eq] at ee
      have hh:bK prog w ks'=bK prog w ks:=by
        have h1':(es[i]?.map (·.1)).getD 0=bK prog w ks:=h1
        rw[ee] at h1'
        exact h1'
      have tail:vm (vk prog w) A (do
          let equal ← Ab [uW b'] (eqBool (.ref b') (.ref b))
          let (es',_,t') ← setState a
          if (true && equal)=true then return .there none
          let some same:=t'.sameMemory t.moves t.mask | unsupported "set.changed-during-lookup:is-the-new-block-at-the-old-address"
          let still ← match (if same then t'.slot r.j else .empty) with
            | .live i'=>match es'[i']? with
              | some (_,y')=>do pure (if ← isSame y' (.ref b') then some i' else none)
              | none=>pure none
            | _=>pure none
          match still with
          | none=>rule "set.search.anew";setSearchFrom a (.ref b) (bK prog w ks) true fuel none
          | some i'=>if equal then return .there (some i') else setSearchFrom a (.ref b) (bK prog w ks) true fuel (some (adv t.mask r))) Q E s:=by
        refine uf (wB (AO hu hk' hk ?_))
        refine uf (bh ho T ?_)
        dsimp only
        by_cases hks:ks'=ks
        · subst hks
          rw[decide_eq_true rfl]
          simp only[Bool.and_self,if_true]
          exact uD (hit ⟨k,r,i,_,w1,e1,ee,b',rfl,hk'⟩)
        · rw[decide_eq_false hks]
          simp only[BG,uQ,if_false]
          rw[show t.sameMemory t.moves t.mask=some true by unfold SetTable.sameMemory;simp]
          dsimp only
          simp only[if_true]
          rw[fA T.rise e1]
          dsimp only
          rw[ee]
          dsimp only
          refine uf (wpAny_isSame_ref_self (uf (uD ?_)))
          simp only[if_true]
          refine ih (n-k-1) _ _ rfl w2 (by omega) (by omega) d2 (λx=>hit ?_) λx=>mis λy=>x ?_
          · obtain ⟨k',r',i',e',a1,a2,a3,a4⟩:=x
            obtain ⟨k'',w''⟩:=w1.trans (.step ⟨i,e1⟩ a1)
            exact ⟨k'',r',i',e',w'',a2,a3,a4⟩
          · obtain ⟨k',r',i',e',a1,a2,a3,a4⟩:=y
            have hx:(es[i']?.map (·.1)).getD 0=bK prog w ks:=by
              obtain ⟨bb,rfl,_⟩:=a4
              rw[a3];rfl
            by_cases lt:k'<k
            · exact absurd hx (no k' r' i' lt a1 a2)
            · have w3:=w1.split a1 (by omega)
              cases hd3:k'-k with
              | zero =>
                rw[hd3] at w3
                cases w3
                obtain rfl:i=i':=(below_at T.rise e1).symm.trans (below_at T.rise a2)
                obtain ⟨bb,rfl,hbb⟩:=a4
                rw[ee] at a3
                injection a3 with a3
                injection a3 with a31 a32
                injection a32 with a32
                subst a32
                exact absurd (hk'.inj hbb) hks
              | succ m =>
                rw[hd3] at w3
                cases w3 with
                | step _ w3=>exact ⟨m,r',i',e',w3,a2,a3,a4⟩
      cases hl:t.led with
      | true =>
        simp only[v5,uQ,if_false]
        rw[ee]
        exact tail
      | false =>
        simp only[Aj,if_true]
        refine uf (sk hk (λv hv =>?_) ?_)
        · obtain ⟨e',he',rfl⟩:=uH.mp hv
          obtain ⟨ks2,b2,e2,hk2⟩:=els e' (Array.mem_of_mem_filter (vT.mp he'))
          exact ⟨ks2,b2,by rw[e2],hk2⟩
        · simp only[uQ,if_false]
          rw[ee]
          exact tail
end
open PySem PySem.SetTable PyProof.Rows
section
variable  {prog:uM}{w:vt}{A:vz}{E:ug->uj->Prop}{s:uj}
def cI (w:vt)(h:Heap)(a:Addr)(es:Array (Int×ug)):Prop :=
 ∃ep t,h.get? a=some (aF es ep t)/\Tab t (es.map (·.1))/\es.size*5<t.mask*3/\t.led = !w.params.followText "set-order" /\ t.plain=true
theorem cI.at {h h':Heap}{a:Addr}{es:Array (Int×ug)}(x:cI w h a es)(e:∀o,h.get? a=some o->h'.get? a=some o):cI w h' a es :=
 let ⟨ep,t,ho,r⟩:=x;⟨ep,t,e _ ho,r⟩
theorem jY {m n:Nat}(hm:Msk m)(h1:n*5<m*3)(h2:(n+1)*5≥m*3)(h3:n<300):Msk (sizeAbove (grown (n+1))-1)/\n+1<=sizeAbove (grown (n+1))-1/\(n+1)*5<(sizeAbove (grown (n+1))-1)*3/\sizeAbove (grown (n+1))<=512:=by
 have c:n=4\/n=18\/n=76:=by
  rcases hm with rfl | rfl | rfl | rfl <;> lia
 unfold Msk
 rcases c with rfl | rfl | rfl <;> decide
theorem iT:512<=uL:=by rw[yt];lia
theorem jZ {a:Addr}{es es':Array (Int×ug)}{ep:Nat}{t t':SetTable}{Q:Unit->uj->Prop}(ho:s.heap.get? a=some (aF es ep t))(hz:es'.size<=512)
  (h:∀h',Heap.SameBut a s.heap h'->h'.get? a=some (aF es' (ep+1) t')->Q () { s with heap:=h' }):vm (vk prog w) A (storeSet a es' t') Q E s:=by
 refine wpAny_storeSet_of (o:=aF es ep t) ho rfl ?_ (vc hz iT)
 refine h _ (Heap.SameBut.update s.heap a _) ?_
 have:=wX (Obj.putSet es' t') ho (by rw[putSet_of es' t' (o:=aF es ep t) rfl];rfl)
 rw[putSet_of es' t' (o:=aF es ep t) rfl] at this
 exact this
theorem Tab.tooFull {t:SetTable}{hs:Array Int}(T:Tab t hs):t.tooFull=decide (hs.size*5≥t.mask*3):=by
 unfold SetTable.tooFull;rw[T.fill]
theorem mW {t:SetTable}{es:Array (Int×ug)}(T:Tab t (es.map (·.1))){n:Nat}(hn:es.size=n+1)(h1:n*5<t.mask*3)(h2:(n+1)*5≥t.mask*3)(h3:n<300) :
  ∃t' order,t.relaid (es.map (·.1)) (grown (n+1))=some (t',order)/\order.toList.Perm (vC es.size)/\Tab t' ((order.filterMap (es[·]?)).map (·.1))/\(order.filterMap (es[·]?)).toList.Perm es.toList/\t'.led=t.led/\t'.plain=t.plain/\(n+1)*5<t'.mask*3:=by
 obtain ⟨k1,k2,k3,k4⟩:=jY T.msk h1 h2 h3
 obtain ⟨t',order,e,pm,T',pe,l,p,m⟩:=p8 k1 t.finger (t.movedTo (sizeAbove (grown (n+1))-1)) t.led t.plain es (by lia)
 exact ⟨t',order,e,pm,T',pe,l,p,by rw[m];exact k3⟩
theorem kW {ks:List Int}{b:Addr}{Q:Bool->uj->Prop}(hk:TK prog w s.heap ks b)(h:Q true s):vm (vk prog w) A (hashByValue 8 (.ref b)) Q E s:=by
 have hT:=hk.typeIs
 obtain ⟨o,items,n,ho,_,hd,hi⟩:=hk
 unfold hashByValue
 refine uf (wpAny_specialOf hT F.slot_tuple_hash.lookup ?_)
 dsimp only
 refine uf (wpAny_seqItems ho hd ?_)
 refine uf ?_
 show vm _ _ (forIn items _ _) _ _ s
 rw[<- AI]
 have hall0:∀v∈items.toList,∃k t,v = .int k t:=by
  clear hd ho
  generalize items.toList=l at hi
  induction hi with
  | nil=>intro v hv;cases hv
  | cons h1 _ ih =>
   intro v hv
   rcases vn.mp hv with rfl | hv
   ·obtain ⟨t,e⟩:=AQ h1;exact ⟨_,t,e⟩
   ·exact ih v hv
 refine zO _ (λrest r s'=>r.1=none/\s'=s/\∀v∈rest,∃k t,v=xZ k t) _ ?_ ?_ _ _ ⟨rfl,rfl,hall0⟩
 ·rintro v rest r s' ⟨hr,rfl,hall⟩
  obtain ⟨k,t,rfl⟩:=hall v uZ
  rw[show hashByValue 7 (.int k t)=pure true from rfl]
  refine uf (uD ?_)
  simp only[v5,uQ,if_false]
  exact uD ⟨rfl,rfl,λu hu'=>hall u (u6 _ hu')⟩
 ·rintro ⟨r1,r2⟩ s' ⟨hr,rfl,_⟩
  simp only at hr
  subst hr
  exact uD h
theorem qa {a b:Addr}{es:Array (Int×ug)}{ks:List Int}{Q:Bool->uj->Prop}(hu:A.units<cLine)(I:cI w s.heap a es)(els:∀e∈es,∃ks',ElT prog w s.heap e ks')(hk:TK prog w s.heap ks b)(hz:es.size<300)
  (hin:(∃e∈es,ElT prog w s.heap e ks)->Q false s)
  (hnew:(¬ ∃e∈es,ElT prog w s.heap e ks)->∀h' es',Heap.SameBut a s.heap h'->cI w h' a es'->es'.toList.Perm ((bK prog w ks,.ref b) :: es.toList)->Q true { s with heap:=h' }) :
  vm (vk prog w) A (setAddHashed a (.ref b) (bK prog w ks)) Q E s:=by
 obtain ⟨ep,t,ho,T,rm,hl,hp⟩:=I
 unfold setAddHashed setAddHashedIn
 refine wB (uf (bh ho T ?_))
 dsimp only
 rw[show byScan (.ref b) es=false from rfl]
 simp only[uQ,if_false]
 obtain ⟨n,q,hn,W,he,hq,hd⟩:=T.ends (bK prog w ks)
 have hn':n<100000:=by
  have:t.mask<=511:=by rcases T.msk with e | e | e | e <;> lia
  unfold turns at hn
  lia
 unfold setSearch
 refine uf (kU hu ho T els hk he 100000 n none _ rfl W hn' hn rfl (λx =>?_) λx =>?_)
 ·obtain ⟨k,r,i,e,_,_,ee,el⟩:=x
  exact uD (hin ⟨e,Array.mem_of_getElem? ee,el⟩)
 ·have nx:¬ ∃e∈es,ElT prog w s.heap e ks:=by
   rintro ⟨e,he',el⟩
   obtain ⟨i,hi,ei⟩:=Array.getElem_of_mem he'
   have ee:es[i]? = some e:=by rw[u0 hi,ei]
   have hpl:i<t.place.size:=by rw[T.size,v3];exact hi
   obtain ⟨bb,rfl,hbb⟩:=el
   obtain ⟨k,r,w1,er⟩:=T.reach i _ _ (u0 hpl) (kT es i _ ee)
   exact x ⟨k,r,i,_,w1,by rw[er];exact u0 hpl,ee,bb,rfl,hbb⟩
  dsimp only
  refine uf (bh ho T ?_)
  dsimp only
  rw[T.sj]
  dsimp only
  rw[hp]
  simp only[if_true]
  have hz':(es.map (·.1)).size+1<=t.mask:=by
   rw[v3];have:=T.fit;rw[v3] at this
   rcases T.msk with e | e | e | e <;> rw[e] at rm ⊢ <;> lia
  have T':=T.put W he hq hz'
  rw[<- jl es (below t.place q.j) (bK prog w ks,uW b) (·.1),hp] at T'
  have sz:(insertAt es (below t.place q.j) (bK prog w ks,uW b)).size=es.size+1:=bY _ _ _
  refine uf (kW hk ?_)
  simp only[if_true]
  refine uf (jZ ho (by rw[sz];lia) λh1 sb1 ho1 =>?_)
  have pm1:=insertAt_perm es (below t.place q.j) (bK prog w ks,uW b)
  rw[T'.tooFull,v3,sz]
  by_cases full:(es.size+1)*5≥t.mask*3
  ·rw[if_pos (by simpa using full)]
   unfold setRelay
   obtain ⟨t2,order,e2,pm2,T2,pe2,l2,p2,rm2⟩:=mW T' sz (n:=es.size) (by simpa using rm) full hz
   obtain ⟨_,_,_,sa⟩:=jY T.msk rm full hz
   refine uf (uf (bh (s:={ s with heap:=h1 }) ho1 T' ?_))
   dsimp only
   rw[if_neg (Nat.not_lt.mpr (vc sa iT))]
   rw[e2]
   have z2:(order.filterMap ((insertAt es (below t.place q.j) (bK prog w ks,uW b))[·]?)).size=es.size+1:=by
    rw[<- uo,pe2.length_eq,uo,sz]
   refine uf ?_
   show vm _ _ (if ((order.filterMap ((insertAt es (below t.place q.j) (bK prog w ks,uW b))[·]?)).size != (insertAt es (below t.place q.j) (bK prog w ks,uW b)).size)=true then _ else _) _ _ _
   rw[if_neg (by rw[z2,sz];simp)]
   refine uD ?_
   dsimp only
   refine jZ (s:={ s with heap:=h1 }) ho1 (by rw[z2];lia) λh2 sb2 ho2 =>?_
   refine uD (hnew nx h2 _ (sb1.trans sb2) ⟨_,_,ho2,T2,by rw[z2];exact rm2,by rw[l2];exact hl,by rw[p2]⟩ (pe2.trans pm1))
  ·rw[if_neg (by simpa using full)]
   refine uD (hnew nx h1 _ sb1 ⟨_,_,ho1,T',?_,hl,rfl⟩ pm1)
   rw[sz]
   exact yb full
end
open PySem PySem.SetTable PyProof.Rows PySem.Spec
def TS (h h':Heap):Prop:=∀b o,o.cls = .type "tuple" -> h.get? b=some o->h'.get? b=some o
structure Kd (prog:uM)(w:vt)(κ:Type) where
 El:Heap->ug -> κ -> Prop
 hash:κ -> Int
 room:vz->Prop
 keeps:∀{h h':Heap} {v:ug} {k:κ},El h v k->TS h h'->El h' v k
 inj:∀{h:Heap} {v:ug} {k k':κ},El h v k->El h v k'->k=k'
 add:∀{A:vz} {E:ug->uj->Prop} {s:uj} {a:Addr} {es:Array (Int×ug)} {v:ug} {k:κ} {Q:Bool->uj->Prop},room A->cI w s.heap a es->(∀e∈es,∃k',e.1=hash k'/\El s.heap e.2 k')->El s.heap v k->es.size<300 →
  ((∃e∈es,El s.heap e.2 k)->∀tk,s.toks<=tk->Q false { s with toks:=tk }) →
  ((¬ ∃e∈es,El s.heap e.2 k)->∀h' es' tk,s.toks<=tk->Heap.SameBut a s.heap h'->cI w h' a es'->es'.toList.Perm ((hash k,v) :: es.toList)->Q true { s with heap:=h',toks:=tk }) →
  vm (vk prog w) A (setAdd a v) Q E s
theorem TK.keep {prog:uM}{w:vt}{h h':Heap}{ks:List Int}{b:Addr}(x:TK prog w h ks b)(t:TS h h'):TK prog w h' ks b :=
 let ⟨o,items,n,ho,hc,r⟩:=x;⟨o,items,n,t b o hc ho,hc,r⟩
def fT (prog:uM)(w:vt):Kd prog w (List Int) where
 El:=λh v ks=>∃b,v = .ref b/\TK prog w h ks b
 hash:=bK prog w
 room:=λA=>A.units<cLine
 keeps:=λ⟨b,e,x⟩ t=>⟨b,e,x.keep t⟩
 inj:=λ⟨b,e,x⟩ ⟨b',e',x'⟩=>by
  rw[e] at e';injection e' with e';subst e';exact x.inj x'
 add:=by
  intro A E s a es v k Q hu I els hv hz hin hnew
  obtain ⟨b,rfl,hk⟩:=hv
  unfold setAdd
  refine wB (uf (wpAny_pyHash_tuple hu hk ?_))
  have els':∀e∈es,∃ks',ElT prog w s.heap e ks':=λe he=>by
   obtain ⟨k',e1,b',e2,x⟩:=els e he
   exact ⟨k',b',B3 e1 e2,x⟩
  have conv:∀e∈es,(ElT prog w s.heap e k↔∃b,e.2 = .ref b/\TK prog w s.heap k b):=λe he=>by
   constructor
   ·rintro ⟨b',rfl,x⟩;exact ⟨b',rfl,x⟩
   ·rintro ⟨b',e2,x⟩
    obtain ⟨k',e1,b2,e3,x2⟩:=els e he
    rw[e2] at e3;injection e3 with e3;subst e3
    obtain rfl:=x.inj x2
    exact ⟨b',B3 e1 e2,x⟩
  refine qa (s:={ s with toks:=s.toks+(k.length+1) }) hu I els' hk hz (λx=>hin ?_ _ (wJ _ _)) λx h' es' sb I' pm=>hnew ?_ h' es' _ (wJ _ _) sb I' pm
  ·obtain ⟨e,he,x⟩:=x;exact ⟨e,he,(conv e he).mp x⟩
  ·rintro ⟨e,he,y⟩;exact x ⟨e,he,(conv e he).mpr y⟩
section
variable  {prog:uM}{w:vt}{κ:Type}(kd:Kd prog w κ)
structure Good (h:Heap)(es:Array (Int×ug))(l:List κ):Prop where
 el:∀e∈es,∃k,k∈l/\e.1=kd.hash k/\kd.El h e.2 k
 all:∀k∈l,∃e∈es,kd.El h e.2 k
 dis:es.toList.Pairwise (λe e'=>∀k,kd.El h e.2 k->¬ kd.El h e'.2 k)
 len:es.size<=l.length
variable  {kd}
theorem Good.keeps {h h':Heap}{es:Array (Int×ug)}{l:List κ}(G:Good kd h es l)(t:TS h h'):Good kd h' es l:=by
 refine ⟨λe he =>?_,λk hk =>?_,?_,G.len⟩
 ·obtain ⟨k,a,b,c⟩:=G.el e he;exact ⟨k,a,b,kd.keeps c t⟩
 ·obtain ⟨e,a,b⟩:=G.all k hk;exact ⟨e,a,kd.keeps b t⟩
 ·refine yh (λ{e e'} he he' x k y z =>?_) G.dis
  obtain ⟨k1,_,_,c1⟩:=G.el e (vT.mp he)
  obtain ⟨k2,_,_,c2⟩:=G.el e' (vT.mp he')
  obtain rfl:=kd.inj y (kd.keeps c1 t)
  obtain rfl:=kd.inj z (kd.keeps c2 t)
  exact x _ c1 c2
theorem Good.nil (h:Heap):Good kd h #[] []:=⟨λe he=>(by simp at he),λk hk=>(by cases hk),(by simp),ur _⟩
theorem Good.same {h:Heap}{es:Array (Int×ug)}{l:List κ}(G:Good kd h es l){k:κ}(x:∃e∈es,kd.El h e.2 k):Good kd h es (l++[k]):=by
 refine ⟨λe he =>?_,λk' hk =>?_,G.dis,by rw[uv];have:=G.len;lia⟩
 ·obtain ⟨k,a,b⟩:=G.el e he;exact ⟨k,vS _ a,b⟩
 ·rcases uC.mp hk with hk | hk
  ·exact G.all k' hk
  ·rw[uw] at hk;subst hk;exact x
theorem Good.more {h:Heap}{es es':Array (Int×ug)}{l:List κ}(G:Good kd h es l){k:κ}{v:ug}(hv:kd.El h v k)(x:¬ ∃e∈es,kd.El h e.2 k)(pm:es'.toList.Perm ((kd.hash k,v) :: es.toList)):Good kd h es' (l++[k]):=by
 have mem:∀e,e∈es'↔e=(kd.hash k,v)\/e∈es:=λe=>by
  rw[<- vT,pm.mem_iff,vn,vT]
 refine ⟨λe he =>?_,λk' hk =>?_,?_,?_⟩
 ·rcases (mem e).mp he with rfl | he
  ·exact ⟨k,u5 _ (uw.mpr rfl),rfl,hv⟩
  ·obtain ⟨k,a,b⟩:=G.el e he;exact ⟨k,vS _ a,b⟩
 ·rcases uC.mp hk with hk | hk
  ·obtain ⟨e,a,b⟩:=G.all k' hk;exact ⟨e,(mem e).mpr (.inr a),b⟩
  ·rw[uw] at hk;subst hk;exact ⟨_,(mem _).mpr (.inl rfl),hv⟩
 ·rw[pm.pairwise_iff (λ{a b} z k y1 y2=>z k y2 y1)]
  refine List.Pairwise.cons (λe he k' y1 y2 =>?_) G.dis
  obtain rfl:=kd.inj y1 hv
  exact x ⟨e,vT.mp he,y2⟩
 ·have:=pm.length_eq
  rw[vh,uo,uo] at this
  rw[uv,vF]
  have:=G.len
  lia
end
section
variable  {prog:uM}{w:vt}{A:vz}{R:Result->uj->Prop}{I:Addr}{fp:List Addr}{G:Array GenState->Array GenState->Prop}{n:Nat}{P:Nat->ug->Prop}{St:Nat->uj->Prop}{κ:Type}{kd:Kd prog w κ}
theorem j4 (W:WalksS prog w A.in1 I fp [I] G n P St)(hrm:kd.room A.in1)(hI:∀i s,St i s->∃o,s.heap.get? I=some o/\o.cls ≠ .type "tuple")(S:Addr)(hSf:S∉fp)(hIf:I∈fp)(ks:List κ)(hn:n=ks.length)(hb:n<300) :
  ∀(k i:Nat) (s:uj) (es:Array (Int×ug)),n-i=k->i<=n->St i s->(∀j v,P j v->∃q,ks[j]? = some q/\kd.El s.heap v q) →
   cI w s.heap S es->Good kd s.heap es (ks.take i) →
   (∀s' es',Moved [S,I] G s s'->cI w s'.heap S es'->Good kd s'.heap es' ks->R (.ok (.ret .none)) s') →
   zJ (vk prog w) A (.builtin "set.update.loop" ⟨[.ref S,.ref I],[]⟩) R s:=by
 have hSI:S≠I:=λe=>hSf (e ▸ hIf)
 have ts:∀i s s',St i s->Moved [I] G s s'->TS s.heap s'.heap:=λi s s' hst hm b o hc e=>by
  refine hm.heap b o (λhb =>?_) e
  rw[uw] at hb
  obtain ⟨o',e',c'⟩:=hI i s hst
  rw[hb,e'] at e;cases e;exact c' hc
 intro k
 induction k with
 | zero =>
  intro i s es hk hi hst hv hS hG hR
  have hin:i=n:=by omega
  subst hin
  refine vM zD ?_
  rw[vV xu _]
  show vm _ A.in1 (pyNext (.ref I) >>= _) _ _ s
  refine uf (W.done s _ _ hst λs' hm =>?_)
  show vm _ A.in1 (ret xA) _ _ s'
  rw[uI (by omega)] at hG
  exact uD (hR s' es (hm.mono λb hb=>by rw[uw] at hb;simp[hb]) (hS.at λo e=>hm.heap S o (by rw[uw];exact hSI) e) (hG.keeps (ts _ _ _ hst hm)))
 | succ k ih =>
  intro i s es hk hi hst hv hS hG hR
  have hlt:i<n:=by omega
  refine vM zD ?_
  rw[vV xu _]
  show vm _ A.in1 (pyNext (.ref I) >>= _) _ _ s
  refine uf (W.item i s _ _ hlt hst λv s' hP hst' hm =>?_)
  have t0:=ts _ _ _ hst hm
  obtain ⟨q,eq,hq⟩:=hv i v hP
  have hS':cI w s'.heap S es:=hS.at λo e=>hm.heap S o (by rw[uw];exact hSI) e
  have hG':=hG.keeps t0
  have tk:ks.take (i+1)=ks.take i++[q]:=by rw[BH,eq];rfl
  show vm _ A.in1 (Ab [v] (setAdd S v) >>= _) _ _ s'
  have hm2:Moved [S,I] G s s':=hm.mono λb hb=>by rw[uw] at hb;simp[hb]
  refine uf (wB (kd.add hrm hS' (λe he =>?_) (kd.keeps hq t0) ?_ (λx tk' htk =>?_) λx h' es' tk' htk sb I' pm =>?_))
  ·obtain ⟨k',_,a,b⟩:=hG'.el e he;exact ⟨k',a,b⟩
  ·have:=hG'.len;rw[vx] at this;omega
  ·refine uD ⟨xy xu _,ih (i+1) _ es (by omega) hlt (W.frame _ s' _ _ hst' htk λb _ o e=>e) (λj v' p =>?_) hS' (by rw[tk];exact hG'.same x) λs'' es'' hm'' a b =>?_⟩
   ·obtain ⟨q',a,b⟩:=hv j v' p;exact ⟨q',a,kd.keeps b t0⟩
   ·exact hR s'' es'' (B2 W.gtrans (hm2.then_heap htk λb o _ e=>e) hm'') a b
  ·have t1:TS s'.heap h':=λb o hc e=>by
    rw[sb.2 b (λhb=>by
     obtain ⟨ep,t,ho,_⟩:=hS'
     rw[hb,ho] at e;cases e;simp[aF] at hc)]
    exact e
   refine uD ⟨xy xu _,ih (i+1) _ es' (by omega) hlt (W.frame _ s' _ _ hst' htk λb hb o e =>?_) (λj v' p =>?_) I' (by rw[tk];exact (hG'.more (kd.keeps hq t0) x pm).keeps t1) λs'' es'' hm'' a b =>?_⟩
   ·rw[sb.2 b (λh:b=S=>hSf (h ▸ hb))];exact e
   ·obtain ⟨q',a,b⟩:=hv j v' p;exact ⟨q',a,kd.keeps (kd.keeps b t0) t1⟩
   ·refine hR s'' es'' (B2 W.gtrans (hm2.then_heap htk λb o hb e =>?_) hm'') a b
    rw[sb.2 b (λh:b=S=>hb (by rw[h];exact uZ))];exact e
end
section
variable  {prog:uM}{w:vt}{A:vz}{E:ug->uj->Prop}{s:uj}
theorem lZ (a:ug){Q₁:ug->uj->Prop}
    (h:Q₁ (.ref s.heap.objs.size) { s with heap:=s.heap.push (aF #[] 0 (.fresh 0 0 (!w.params.followText "set-order"))) }) :
    zJ (vk prog w) A (.call (.builtin "set.__new__") ⟨[.type "set",a],[]⟩) (wants Q₁ E) s:=by
  refine z9 ?_
  show vm _ A.in1 (do checkBuiltinCall "set.__new__" ⟨[.type "set",a],[]⟩;again (.builtin "set.__new__" ⟨[.type "set",a],[]⟩)) _ _ s
  refine uf (wpAny_of_eq (PySem.F.newCall_set_1 a) (uD ⟨xy Bs _,vM F.entry_set_new ?_⟩))
  rw[vV Bs _]
  unfold Builtin.«set.__new__» Builtin.Frozenset.newClass
  have hsub:=sub_set_self
  obtain ⟨hp,g,d,tk,os⟩:=s
  dsimp only
  wp_walk
  refine zP (uD ?_)
  dsimp only
  simp only[newObj]
  refine uf (wpAny_alloc (uD ?_))
  exact uD h
theorem mY (led:Bool):Tab (.fresh 0 0 led) #[]:=by
 refine ⟨rfl,λi j a b e =>?_,rfl,λi j e =>?_,.inl rfl,vv _,λi j h e =>?_⟩ <;> (simp[SetTable.fresh] at e)
theorem gF {h:Heap}{a:Addr}(ho:h.get? a=some (aF #[] 0 (.fresh 0 0 (!w.params.followText "set-order")))):cI w h a #[] :=
 ⟨0,_,ho,(by rw[Array.map_empty];exact mY _),(by show 0*5<7*3;decide),rfl,rfl⟩
theorem sub_tuple_set:isSubtype (.type "tuple") (.type "set")=pure false:=by rw[Ak];kernel_rfl
theorem sub_tuple_frozenset:isSubtype (.type "tuple") (.type "frozenset")=pure false:=by rw[Ak];kernel_rfl
end
open PySem PySem.SetTable PyProof.Rows PySem.Spec
section
variable  {prog:uM}{w:vt}{A:vz}{E:ug->uj->Prop}{s:uj}
set_option maxHeartbeats 3200000 in
theorem gG {κ:Type}{kd:Kd prog w κ}{l:Addr}{items:Array ug}{ks:List κ}{Q:ug->uj->Prop}
  (hh:A.handled=none) (hrm:kd.room A.in1.in1.in1) (hl:s.heap.IsTuple l items) (hz:items.size=ks.length) (hi:∀(i:Nat) v,items[i]? = some v->∃q,ks[i]? = some q/\kd.El s.heap v q) (hb:items.size<300)
  (h:∀(h':Heap) (es:Array (Int×ug)) (tk:Nat),s.toks<=tk->cI w h' s.heap.objs.size es->Good kd h' es ks →
   (∀b o,s.heap.get? b=some o->h'.get? b=some o)->Q (.ref s.heap.objs.size) { s with heap:=h',toks:=tk }) :
  vm (vk prog w) A (call (.type "set") [.ref l]) Q E s:=by
 obtain ⟨c,tl,hmro⟩:=vX.mro
 have hmade:=vX.made
 have hsub:=vX.sub
 refine Bc (z9 ?_)
 show vm _ _ (callAny (.type "set") _) _ _ _
 refine uD ⟨yo _ (by decide +kernel),vM AY ?_⟩
 rw[AJ (Aa "set" [.ref l] []) rfl]
 have h1:=vX.notType
 have h2:=vX.canCreate
 have hct:=zT (.ref l)
 repeat (any_goals (first | assumption | wp_step))
 have gd:(s.heap.push (aF #[] 0 (.fresh 0 0 (!w.params.followText "set-order")))).objs.size=s.heap.objs.size+1:=yu _ _
 refine xK (lZ (w:=w) (.ref l) (E:=E) (Q₁:=λobj s₁=>obj = .ref s.heap.objs.size/\s₁={ s with heap:=s.heap.push (aF #[] 0 (.fresh 0 0 (!w.params.followText "set-order"))) }) ⟨rfl,rfl⟩) λr s₁ hr =>?_
 cases r with
 | error e=>exact hr
 | ok fl =>
  cases fl with
  | ret obj =>
   obtain ⟨rfl,rfl⟩:=hr
   generalize hled:(!w.params.followText "set-order")=led at gd ⊢
   have hS:(s.heap.push (aF #[] 0 (.fresh 0 0 led))).get? s.heap.objs.size=some (aF #[] 0 (.fresh 0 0 led)):=uU _ rfl
   have hT:Shared.TypeIs { s with heap:=s.heap.push (aF #[] 0 (.fresh 0 0 led)) } (.ref s.heap.objs.size) "set" :=⟨_,hS,rfl⟩
   have hli:=vX.init.lookup
   have hbi:=vX.init.bind (.ref s.heap.objs.size)
   repeat (any_goals (first | assumption | wp_step))
   refine xK (xV (R:=wants (λr s₂=>r = .none/\∃h' es tk,s₂={ s with heap:=h',toks:=tk }/\s.toks<=tk ∧
     cI w h' s.heap.objs.size es/\Good kd h' es ks ∧
     (∀b o,s.heap.get? b=some o->h'.get? b=some o)) E) vX.init.plain Bm (check_set_init_1 hT ?_)) λr₂ s₂ hr₂ =>?_
   ·obtain ⟨ol,hol,hcl,nl,hdl⟩:=id hl
    obtain ⟨ocls,odict,odata,oslots⟩:=ol
    simp only at hcl hdl
    subst hcl;subst hdl
    have hol':(s.heap.push (aF #[] 0 (.fresh 0 0 led))).get? l=some { cls :=.type "tuple",dict:=odict,data :=.seq items nl,slots:=oslots }:=uq _ hol
    have hsls:=sub_tuple_set
    have hslf:=sub_tuple_frozenset
    have hne:(xS "tuple" == xS "dict")=false:=by decide
    have hl1:(s.heap.push (aF #[] 0 (.fresh 0 0 led))).IsTuple l items:=⟨_,hol',rfl,nl,rfl⟩
    unfold Builtin.«set.__init__» noKeywords Builtin.Frozenset.updateFrom
    generalize hPI:pyIter=PI
    wp_walk
    subst hPI
    refine AM hl1 ?_
    refine uf (ze ?_)
    have hlS:l<s.heap.objs.size:=uO hol
    have hh3:A.in1.in1.in1.handled=none:=by simp[hh]
    have hneI:l≠(s.heap.push (aF #[] 0 (.fresh 0 0 led))).objs.size:=by
     rw[gd];exact ve (wz hlS)
    have hSf:s.heap.objs.size∉[(s.heap.push (aF #[] 0 (.fresh 0 0 led))).objs.size,l]:=by
     rw[gd];simp only[vn,uw,yB,or_false,not_or]
     exact ⟨ve (x8 _),ye hlS⟩
    refine j4 (kd:=kd) ((Walks.tuple hh3 _ l hneI items).toS) hrm (λi s' st =>?hI) s.heap.objs.size hSf uZ ks hz hb (items.size-0) 0 _ #[] (by lia) (vv _)
     ⟨⟨_,uU _ rfl,rfl,rfl⟩,(hl1.push _)⟩ ?hv (by subst hled;exact gF (uq _ hS)) (Good.nil _) ?hR
    case hI =>
     obtain ⟨o,ho,hc,_⟩:=st.1
     exact ⟨o,ho,by rw[hc];decide⟩
    case hv =>
     intro j v hv
     obtain ⟨q,e,x⟩:=hi j v hv
     exact ⟨q,e,kd.keeps x λb o _ e=>uq _ (uq _ e)⟩
    case hR =>
     intro s' es' hm hS' hG'
     obtain ⟨h',g',d',tk',os'⟩:=s'
     have eg:g'=s.gens:=hm.gens
     have ed:d'=s.drawn:=hm.drawn
     have eo:os'=s.os:=hm.os
     subst eg;subst ed;subst eo
     show vm _ _ _ _ _ _
     refine uD ?_
     show vm _ _ (ret xA) _ _ _
     refine uD ⟨rfl,h',es',tk',rfl,hm.toks,hS',hG',λb o e =>?_⟩
     have hbb:=uO e
     have hb1:b≠s.heap.objs.size:=ve hbb
     have hb2:b≠(s.heap.push (aF #[] 0 (.fresh 0 0 led))).objs.size:=by
      rw[gd];exact ve (wz hbb)
     exact hm.heap b o (by simp only[vn,uw,yB,or_false,not_or];exact ⟨hb1,hb2⟩) (uq _ (uq _ e))
   ·cases r₂ with
    | error e=>exact hr₂
    | ok fl₂ =>
     cases fl₂ with
     | ret r =>
      obtain ⟨rfl,h',es,tk,rfl,htk,hS',hG',hk'⟩:=hr₂
      repeat (any_goals (first | assumption | wp_step))
      exact h _ _ _ htk hS' hG' hk'
     | _=>exact hr₂.elim
  | _=>exact hr.elim
end
open PySem PySem.SetTable PyProof.Rows PySem.Spec
section
variable  {prog:uM}{w:vt}{A:vz}{E:ug->uj->Prop}{s:uj}
set_option maxHeartbeats 3200000 in
theorem call_set_list {κ:Type}{kd:Kd prog w κ}{l:Addr}{items:Array ug}{ks:List κ}{Q:ug->uj->Prop}
  (hh:A.handled=none) (hrm:kd.room A.in1.in1.in1) (hl:s.heap.IsList l items) (hz:items.size=ks.length) (hi:∀(i:Nat) v,items[i]? = some v->∃q,ks[i]? = some q/\kd.El s.heap v q) (hb:items.size<300)
  (h:∀(h':Heap) (es:Array (Int×ug)) (tk:Nat),s.toks<=tk->cI w h' s.heap.objs.size es->Good kd h' es ks →
   (∀b o,s.heap.get? b=some o->h'.get? b=some o)->Q (.ref s.heap.objs.size) { s with heap:=h',toks:=tk }) :
  vm (vk prog w) A (call (.type "set") [.ref l]) Q E s:=by
 obtain ⟨c,tl,hmro⟩:=vX.mro
 have hmade:=vX.made
 have hsub:=vX.sub
 refine Bc (z9 ?_)
 show vm _ _ (callAny (.type "set") _) _ _ _
 refine uD ⟨yo _ (by decide +kernel),vM AY ?_⟩
 rw[AJ (Aa "set" [.ref l] []) rfl]
 have h1:=vX.notType
 have h2:=vX.canCreate
 have hct:=zT (.ref l)
 repeat (any_goals (first | assumption | wp_step))
 have gd:(s.heap.push (aF #[] 0 (.fresh 0 0 (!w.params.followText "set-order")))).objs.size=s.heap.objs.size+1:=yu _ _
 refine xK (lZ (w:=w) (.ref l) (E:=E) (Q₁:=λobj s₁=>obj = .ref s.heap.objs.size/\s₁={ s with heap:=s.heap.push (aF #[] 0 (.fresh 0 0 (!w.params.followText "set-order"))) }) ⟨rfl,rfl⟩) λr s₁ hr =>?_
 cases r with
 | error e=>exact hr
 | ok fl =>
  cases fl with
  | ret obj =>
   obtain ⟨rfl,rfl⟩:=hr
   generalize hled:(!w.params.followText "set-order")=led at gd ⊢
   have hS:(s.heap.push (aF #[] 0 (.fresh 0 0 led))).get? s.heap.objs.size=some (aF #[] 0 (.fresh 0 0 led)):=uU _ rfl
   have hT:Shared.TypeIs { s with heap:=s.heap.push (aF #[] 0 (.fresh 0 0 led)) } (.ref s.heap.objs.size) "set" :=⟨_,hS,rfl⟩
   have hli:=vX.init.lookup
   have hbi:=vX.init.bind (.ref s.heap.objs.size)
   repeat (any_goals (first | assumption | wp_step))
   refine xK (xV (R:=wants (λr s₂=>r = .none/\∃h' es tk,s₂={ s with heap:=h',toks:=tk }/\s.toks<=tk ∧
     cI w h' s.heap.objs.size es/\Good kd h' es ks ∧
     (∀b o,s.heap.get? b=some o->h'.get? b=some o)) E) vX.init.plain Bm (check_set_init_1 hT ?_)) λr₂ s₂ hr₂ =>?_
   ·obtain ⟨ol,hol,hcl,nl,hdl⟩:=id hl
    obtain ⟨ocls,odict,odata,oslots⟩:=ol
    simp only at hcl hdl
    subst hcl;subst hdl
    have hol':(s.heap.push (aF #[] 0 (.fresh 0 0 led))).get? l=some { cls :=.type "list",dict:=odict,data :=.seq items nl,slots:=oslots }:=uq _ hol
    have hsls:=PySem.F.sub_list_set
    have hslf:=PySem.F.sub_list_frozenset
    have hne:(xS "list" == xS "dict")=false:=by decide
    have hl1:(s.heap.push (aF #[] 0 (.fresh 0 0 led))).IsList l items:=⟨_,hol',rfl,nl,rfl⟩
    unfold Builtin.«set.__init__» noKeywords Builtin.Frozenset.updateFrom
    generalize hPI:pyIter=PI
    wp_walk
    subst hPI
    refine Bb hl1 ?_
    refine uf (ze ?_)
    have hlS:l<s.heap.objs.size:=uO hol
    have hh3:A.in1.in1.in1.handled=none:=by simp[hh]
    have hneI:l≠(s.heap.push (aF #[] 0 (.fresh 0 0 led))).objs.size:=by
     rw[gd];exact ve (wz hlS)
    have hSf:s.heap.objs.size∉[(s.heap.push (aF #[] 0 (.fresh 0 0 led))).objs.size,l]:=by
     rw[gd];simp only[vn,uw,yB,or_false,not_or]
     exact ⟨ve (x8 _),ye hlS⟩
    refine j4 (kd:=kd) ((Walks.list hh3 _ l hneI items).toS) hrm (λi s' st =>?hI) s.heap.objs.size hSf uZ ks hz hb (items.size-0) 0 _ #[] (by lia) (vv _)
     ⟨⟨_,uU _ rfl,rfl,rfl⟩,(hl1.push _)⟩ ?hv (by subst hled;exact gF (uq _ hS)) (Good.nil _) ?hR
    case hI =>
     obtain ⟨o,ho,hc,_⟩:=st.1
     exact ⟨o,ho,by rw[hc];decide⟩
    case hv =>
     intro j v hv
     obtain ⟨q,e,x⟩:=hi j v hv
     exact ⟨q,e,kd.keeps x λb o _ e=>uq _ (uq _ e)⟩
    case hR =>
     intro s' es' hm hS' hG'
     obtain ⟨h',g',d',tk',os'⟩:=s'
     have eg:g'=s.gens:=hm.gens
     have ed:d'=s.drawn:=hm.drawn
     have eo:os'=s.os:=hm.os
     subst eg;subst ed;subst eo
     show vm _ _ _ _ _ _
     refine uD ?_
     show vm _ _ (ret xA) _ _ _
     refine uD ⟨rfl,h',es',tk',rfl,hm.toks,hS',hG',λb o e =>?_⟩
     have hbb:=uO e
     have hb1:b≠s.heap.objs.size:=ve hbb
     have hb2:b≠(s.heap.push (aF #[] 0 (.fresh 0 0 led))).objs.size:=by
      rw[gd];exact ve (wz hbb)
     exact hm.heap b o (by simp only[vn,uw,yB,or_false,not_or];exact ⟨hb1,hb2⟩) (uq _ (uq _ e))
   ·cases r₂ with
    | error e=>exact hr₂
    | ok fl₂ =>
     cases fl₂ with
     | ret r =>
      obtain ⟨rfl,h',es,tk,rfl,htk,hS',hG',hk'⟩:=hr₂
      repeat (any_goals (first | assumption | wp_step))
      exact h _ _ _ htk hS' hG' hk'
     | _=>exact hr₂.elim
  | _=>exact hr.elim
end
open PySem PySem.SetTable PyProof.Rows
namespace F9
theorem de:Slot "set_iterator" "__next__" "set_iterator.__next__" :=
 .of (owner := "set_iterator") (n := "__next__") (by rw[typeLookup_type,builtinLookup_eq_fast];kernel_rfl) (by decide +kernel) (by decide +kernel) (by decide +kernel)
  (by first | exact .inl (by decide +kernel) | exact .inr (by decide +kernel)) (by rw[Ak];kernel_rfl)
theorem ic:entryFor table "set_iterator.__next__" = some Builtin.«set_iterator.__next__» := entryFor_of_tree (by kernel_rfl)
theorem ju (a:ug):argsOk "set_iterator.__next__" ⟨[a],[]⟩:=by
 unfold argsOk;kernel_rfl
theorem gH:entryFor table "set.__iter__" = some Builtin.«frozenset.__iter__» :=
 entryFor_alias (id' := "frozenset.__iter__") (by kernel_rfl) rfl (by decide +kernel) (by kernel_rfl)
end F9
theorem gI {α:Type}:∀(l:List α) (i:Nat) (x:α),l[i]? = some x->(x :: l.eraseIdx i).Perm l
 | [],i,x,h=>by simp at h
 | y :: l,0,x,h=>by simp at h;subst h;exact xX _
 | y :: l,i+1,x,h=>by
  rw[wN] at h
  rw[zB]
  exact (List.Perm.swap y x _).trans (List.Perm.cons y (gI l i x h))
theorem l4 {α:Type}(next:Nat->Nat):∀(fuel k:Nat) (left:List α) (out:Array α),left.length=fuel->(pickOrder.go next fuel k left out).toList.Perm (out.toList++left)
 | 0,k,left,out,h=>by
  have:left=[]:=zC.mp h
  subst this
  unfold pickOrder.go
  rw[vE]
 | fuel+1,k,left,out,h=>by
  unfold pickOrder.go
  have hl:next k%left.length<left.length:=yq _ (by lia)
  have e:=ux hl
  rw[e]
  dsimp only
  have ih:=l4 next fuel (k+1) (left.eraseIdx (next k%left.length)) (out.push left[next k%left.length]) (by rw[Ag,if_pos hl];lia)
  refine ih.trans ?_
  rw[wd,vp]
  exact we _ (gI _ _ _ e)
theorem mZ {α:Type}(next:Nat->Nat)(xs:Array α):(pickOrder next xs).toList.Perm xs.toList:=by
 unfold pickOrder
 have:=l4 next xs.size 0 xs.toList #[] (by simp)
 simpa using this
section
variable  {prog:uM}{w:vt}{A:vz}{E:ug->uj->Prop}{s:uj}
def walkVals (w:vt)(a:Addr)(es:Array (Int×ug))(ep:Nat):List ug :=
 if w.params.followText "set-order" = true then (pickOrder (w.params.setOrder a ep) es).toList.map (·.2) else es.toList.map (·.2)
theorem iU (w:vt)(a:Addr)(es:Array (Int×ug))(ep:Nat):(walkVals w a es ep).Perm (es.toList.map (·.2)):=by
 unfold walkVals
 split
 ·exact (mZ _ _).map _
 ·exact xX _
theorem fB {Q:Bool->uj->Prop}(h:Q (w.params.followText "set-order") s):vm (vk prog w) A setsByText Q E s:=by
 unfold setsByText
 exact uf (zP (uD h))
theorem kX {a:Addr}{es:Array (Int×ug)}{ep:Nat}{t:SetTable}{Q:Option (ug×Nat)->uj->Prop}(ho:s.heap.get? a=some (aF es ep t))(T:Tab t (es.map (·.1)))(hl:t.led = !w.params.followText "set-order")(hp:t.plain=true){slot i:Nat}
  (hs:w.params.followText "set-order" = false->below t.place slot=i)
  (hy:∀x slot',(walkVals w a es ep)[i]? = some x->(w.params.followText "set-order" = false->below t.place slot'=i+1)->Q (some (x,slot')) s)
  (hn:(walkVals w a es ep)[i]? = none->Q none s):vm (vk prog w) A (setNext a slot i ep) Q E s:=by
 unfold setNext
 refine uf (bh ho T ?_)
 dsimp only
 refine uf (fB ?_)
 cases hb:w.params.followText "set-order" with
 | true =>
  rw[hb] at hs hy
  simp only[bne_self_eq_false,uQ,if_true,if_false]
  refine uf ?_
  unfold setWalk
  refine uf (bh ho T ?_)
  dsimp only
  refine uf (fB ?_)
  rw[hb]
  simp only[if_true]
  refine uf (zP (uD ?_))
  refine uD ?_
  have ew:(walkVals w a es ep)[i]? = ((pickOrder (w.params.setOrder a ep) es)[i]?).map (·.2):=by
   unfold walkVals
   rw[if_pos hb,uF,uz]
  show Q (((pickOrder (w.params.setOrder a ep) es)[i]?).map λe=>(e.2,slot)) s
  cases hx:(pickOrder (w.params.setOrder a ep) es)[i]? with
  | none=>rw[hx] at ew;exact hn ew
  | some e=>rw[hx] at ew;exact hy _ _ ew (λq=>by cases q)
 | false =>
  have hs':=hs hb
  simp only[uQ,if_false]
  have ew:(walkVals w a es ep)[i]? = (es[i]?).map (·.2):=by
   unfold walkVals
   rw[if_neg (by rw[hb];exact uP),uF,uz]
  show vm _ _ (if (!t.plain && decide (es.size>1))=true then _ else _) _ _ _
  rw[hp]
  simp only[v5,yY,uQ,if_false]
  refine uf ?_
  show vm _ _ (if (!t.led && !es.isEmpty)=true then _ else _) _ _ _
  rw[hl,hb]
  simp only[Aj,v5,yY,uQ,if_false]
  refine uD ?_
  rw[hs']
  by_cases hi:i<es.size
  ·have ee:es[i]? = some es[i]:=u0 hi
   have hpl:i<t.place.size:=by rw[T.size,v3];exact hi
   have ep':t.place[i]? = some t.place[i]:=u0 hpl
   rw[ee,ep']
   rw[ee] at ew
   exact uD (hy _ _ ew λ_=>kP T.rise ep')
  ·have ee:es[i]? = none:=xC (by lia)
   rw[ee]
   rw[ee] at ew
   exact uD (hn ew)
def fC (h:Heap)(it a:Addr)(slot i n ep:Nat):Prop:=h.get? it=some { cls :=.type "set_iterator",data :=.fields #[.int slot 0,.int i 0,.ref a,.int n 0,.int ep 0] }
theorem fC.typeIs {it a:Addr}{slot i n ep:Nat}(x:fC s.heap it a slot i n ep):s.TypeIs (.ref it) "set_iterator" :=⟨_,x,rfl⟩
end
open PySem PySem.SetTable PyProof.Rows
section
variable  {prog:uM}{w:vt}{A:vz}{E:ug->uj->Prop}{s:uj}
structure kY (w:vt)(h:Heap)(it a:Addr)(es:Array (Int×ug))(ep i:Nat):Prop where
 st:∃t slot,h.get? a=some (aF es ep t)/\Tab t (es.map (·.1))/\t.led=(!w.params.followText "set-order")/\t.plain=true/\(w.params.followText "set-order" = false->below t.place slot=i)/\fC h it a slot i es.size ep
theorem l5 {it a:Addr}{es:Array (Int×ug)}{ep i:Nat}{Q:Option ug->uj->Prop}(hh:A.handled=none)(hne:it≠a)(O:kY w s.heap it a es ep i)
  (hy:∀x h',(walkVals w a es ep)[i]? = some x->kY w h' it a es ep (i+1)->Heap.SameBut it s.heap h'->Q (some x) { s with heap:=h' })
  (hn:(walkVals w a es ep)[i]? = none->∀h',Heap.ExtBut it s.heap h'->Q none { s with heap:=h' }) :
  vm (vk prog w) A (pyNext (.ref it)) Q E s:=by
 obtain ⟨t,slot,ho,T,hl,hp,hs,hit⟩:=O.st
 have hf:t.fits es.size=true:=by have:=T.fits;rwa [v3] at this
 unfold pyNext
 refine uf (wpAny_attempt (wpAny_callSpecial?_slot (name:=Str.ofString "__next__") hit.typeIs F9.de
  (yD F9.de hit.typeIs F9.ic ?_ (F9.ju _))))
 show vm _ _ (fieldsOf (.ref it) >>= _) _ _ s
 refine uf (wpAny_fieldsOf hit rfl ?_)
 show vm _ _ (setEntries a >>= _) _ _ s
 refine uf (Av ho rfl hf ?_)
 rw[if_neg (by simp)]
 show vm _ _ (setNext a ((slot:Int).toNat) ((i:Int).toNat) ((ep:Int).toNat) >>= _) _ _ s
 rw[vR,vR,vR]
 refine uf (kX ho T hl hp hs (λx slot' ex hs' =>?_) λex =>?_)
 ·dsimp only
  refine uf (yV hit (by simp) λh1 e1 sb1 =>?_)
  refine uf (yV e1 (by simp) λh2 e2 sb2 =>?_)
  refine uD ⟨x,rfl,uD (hy x h2 ex ⟨t,slot',?_,T,hl,hp,hs',?_⟩ (sb1.trans sb2))⟩
  ·rw[(sb1.trans sb2).2 a (w6 hne)];exact ho
  ·unfold fC
   rw[e2]
   simp[Al]
 ·dsimp only
  refine uf (yV hit (by simp) λh1 e1 sb1 =>?_)
  show vm _ _ (newExc (.type "StopIteration") [] >>= _) _ _ _
  refine uf ?_
  simp only[newExc,newTuple]
  refine uf (xQ ?_ (by size_fits))
  refine uf (m:=firstArgMember _ _) (wpAny_of_eq (a:=xA) (by first | rfl | (simp only[firstArgMember];rfl)) ?_)
  refine xQ ?_ (by size_fits)
  simp only[raiseNew]
  refine uf (wpAny_handled ?_)
  first | rw[show A.in1.handled=none from hh] | rw[hh]
  refine uf (uD (wpAny_throw ?_))
  refine uf (wpAny_isInstance (T := "StopIteration") (b:=true) ⟨_,uU _ rfl,rfl⟩ isSubtype_stop ?_)
  exact uD (hn ex _ ((sb1.extBut.push _).push _))
theorem j6 {it a S:Addr}{es:Array (Int×ug)}{ep:Nat}{res:ug}{R:Result->uj->Prop}(hh:A.in1.handled=none)(hne:it≠a)(hSI:S≠it)(hSa:S≠a)(hz:es.size<300) :
  ∀(k i:Nat) (h:Heap) (acc:Array ug) (c:Nat),es.size-i=k->i<=es.size->kY w h it a es ep i->h.get? S=some { cls :=.type "list",dict:=none,data :=.seq acc c,slots := #[] }->acc.toList=(walkVals w a es ep).take i →
  (∀h' acc' c',(∀b o,b≠S->b≠it->h.get? b=some o->h'.get? b=some o)->h'.get? S=some { cls :=.type "list",dict:=none,data :=.seq acc' c',slots := #[] }->acc'.toList=walkVals w a es ep->R (.ok (.ret res)) { s with heap:=h' }) →
  zJ (vk prog w) A (.builtin "list.extend.loop" ⟨[.ref S,.ref it,res],[]⟩) R { s with heap:=h }:=by
 have lw:(walkVals w a es ep).length=es.size:=by rw[(iU w a es ep).length_eq,ue,uo]
 have zl:300<=uL:=by rw[yt];lia
 intro k
 induction k with
 | zero =>
  intro i h acc c hk hi O hS ha hR
  have hin:i=es.size:=by lia
  subst hin
  refine vM As ?_
  rw[vV yd _]
  show vm _ A.in1 (pyNext (.ref it) >>= _) _ _ { s with heap:=h }
  refine uf (l5 hh hne O (λx h' ex =>?_) λex h' xb =>?_)
  ·rw[xI (by lia)] at ex;cases ex
  ·refine uD (hR h' acc c (λb o _ hb e=>xb b o hb e) (xb S _ hSI hS) ?_)
   rw[ha,uI (by lia)]
 | succ k ih =>
  intro i h acc c hk hi O hS ha hR
  have hlt:i<es.size:=by lia
  refine vM As ?_
  rw[vV yd _]
  show vm _ A.in1 (pyNext (.ref it) >>= _) _ _ { s with heap:=h }
  refine uf (l5 hh hne O (λx h' ex O' sb =>?_) λex =>?_)
  ·have hS':h'.get? S=some { cls :=.type "list",dict:=none,data :=.seq acc c,slots := #[] }:=by rw[sb.2 S hSI];exact hS
   have hal:acc.size=i:=by rw[<- uo,ha,vx];lia
   show vm _ A.in1 (updateSeq S (·.push x) >>= _) _ _ _
   refine uf ?_
   refine yL (s:={ s with heap:=h' }) hS' rfl (uD ⟨xy yd _,ih (i+1) _ (acc.push x) _ (by lia) hlt ?_ (wX _ hS' rfl) ?_ λh'' acc' c' kk hS'' ha' =>?_⟩)
    (by rw[hal];lia) (by show (acc.push x).size<=uL+1;rw[xg,hal];lia)
   ·obtain ⟨t,slot,ho,T,hl,hp,hs,hit⟩:=O'.st
    exact ⟨t,slot,(v9 _ _ hSa).trans ho,T,hl,hp,hs,(v9 _ _ hSI).trans hit⟩
   ·rw[wd,ha,BH,ex];rfl
   ·refine hR h'' acc' c' (λb o hb hb2 e=>kk b o hb hb2 ?_) hS'' ha'
    refine (v9 _ _ (w6 hb)).trans ?_
    rw[sb.2 b hb2];exact e
  ·rw[ux (by lia)] at ex;cases ex
theorem j7 {a:Addr}{es:Array (Int×ug)}{R:List ug->uj->Prop}(hh:A.handled=none)(I:cI w s.heap a es)(hz:es.size<300)
  (h:∀h1 vs,vs.Perm (es.toList.map (·.2))->(∀b o,s.heap.get? b=some o->h1.get? b=some o)->s.heap.objs.size<=h1.objs.size->R vs { s with heap:=h1 }) :
  vm (vk prog w) A (collect (.ref a)) R E s:=by
 obtain ⟨ep,t,ho,T,rm,hl,hp⟩:=I
 have hf:t.fits es.size=true:=by have:=T.fits;rwa [v3] at this
 have hlt:=uO ho
 unfold collect
 refine uf (ze (vM F.entry_proto_collect ?_))
 rw[vV F.plain_proto_collect _]
 show vm _ A.in1 (newList [] >>= λl=>again (.builtin "list.__iadd__" ⟨[l,.ref a],[]⟩)) _ _ s
 refine uf (xQ ?_)
 refine uD ⟨xy AZ _,vM F.entry_list_iadd ?_⟩
 rw[vV AZ _]
 show vm _ A.in1 (wU (.ref s.heap.objs.size) (.ref a) (.ref s.heap.objs.size)) _ _ _
 unfold wU
 have hSa:s.heap.objs.size≠a:=ye hlt
 have z1:(s.heap.push { cls :=.type "list",data :=.seq ([]:List ug).toArray }).objs.size=s.heap.objs.size+1:=yu _ _
 have ho1:(s.heap.push { cls :=.type "list",data :=.seq ([]:List ug).toArray }).get? a=some (aF es ep t):=uq _ ho
 have hT1:Shared.TypeIs { s with heap:=s.heap.push { cls :=.type "list",data :=.seq ([]:List ug).toArray } } (.ref a) "set" :=⟨_,ho1,rfl⟩
 refine uf (yU hT1 ?_)
 have h1:zy (.ref s.heap.objs.size) (.ref a)=false:=by simp[zy,hSa]
 have h2:(xS "set" == xS "list")=false:=by decide
 have h3:(xS "set" == xS "tuple")=false:=by decide
 simp only[h1,h2,h3,Bool.or_false,uQ,if_false]
 refine uf (wpAny_pyIter_slot hT1 Bt (yD Bt hT1 F9.gH ?_ (F.args_set_iter_1 _)))
 unfold Builtin.«frozenset.__iter__» Builtin.Frozenset.slot0 slotArgs
 simp only[List.isEmpty_nil,v5,uQ, ↓reduceIte,bind_assoc,yI,bne_self_eq_false]
 unfold Builtin.Frozenset.addrOf Builtin.Frozenset.sizeOf
 refine uf (uD ?_)
 try dsimp only
 refine uf (uD ?_)
 refine uf (uf (Av ho1 rfl hf (uD ?_)))
 refine uf ?_
 unfold setDrawn
 refine uf (bh ho1 T ?_)
 dsimp only
 refine uf (fB ?_)
 show vm _ _ (pure (!w.params.followText "set-order" && (!t.plain && decide (es.size>1)))) _ _ _
 rw[hp]
 simp only[v5,yY,BG]
 refine uD ?_
 simp only[uQ,if_false]
 refine uf (uD ?_)
 refine uf (wpAny_setEpoch_of ho1 rfl hf ?_)
 refine uf (xQ (uD ⟨_,rfl, "set_iterator",_,⟨_,uU _ rfl,rfl⟩,F9.de.lookup,?_⟩))
 have zit:(s.heap.push { cls :=.type "list",data :=.seq ([]:List ug).toArray }).objs.size=s.heap.objs.size+1:=z1
 show vm _ A.in1 (Ab [.ref (s.heap.push { cls :=.type "list",data :=.seq ([]:List ug).toArray }).objs.size] (yM (.ref a)) >>= _) _ _ { s with heap:=(s.heap.push { cls :=.type "list",data :=.seq ([]:List ug).toArray }).push { cls :=.type "set_iterator",data :=.fields #[Al 0,Al 0,.ref a,Al es.size,Al ep] } }
 rw[zit]
 generalize hH:(s.heap.push { cls :=.type "list",data :=.seq ([]:List ug).toArray }).push { cls :=.type "set_iterator",data :=.fields #[Al 0,Al 0,.ref a,Al es.size,Al ep] }=H
 have kH:∀b o,(s.heap.push { cls :=.type "list",data :=.seq ([]:List ug).toArray }).get? b=some o->H.get? b=some o:=λb o e=>by rw[<- hH];exact uq _ e
 have zH:H.objs.size=s.heap.objs.size+2:=by rw[<- hH,yu,z1]
 have hit:fC H (s.heap.objs.size+1) a 0 0 es.size ep:=by
  unfold fC
  rw[<- hH, <- z1]
  exact uU _ rfl
 have hT2:Shared.TypeIs { s with heap:=H } (.ref a) "set" :=⟨_,kH _ _ ho1,rfl⟩
 refine uf (wB ?_)
 unfold yM
 refine uf (wpAny_specialOf hT2 F.slot_set_len.lookup ?_)
 dsimp only
 rw[show splitId "set.__len__" = some ("set", "__len__") by kernel_rfl]
 dsimp only
 refine uf (wpAny_isInstance hT2 sub_set_self ?_)
 simp only[v5,uQ,if_false]
 show vm _ _ (typeOf (.ref a) >>= _) _ _ _
 refine uf (yU hT2 ?_)
 refine uD ?_
 show vm _ A.in1 (rule "list.extend.makes-room" >>= λ_=>Builtin.List.listTouch (.ref s.heap.objs.size) >>= λ_ =>
  again (.builtin "list.extend.loop" ⟨[.ref s.heap.objs.size,.ref (s.heap.objs.size+1),.ref s.heap.objs.size],[]⟩)) _ _ _
 refine uf (yG ?_)
 have hS₁:H.get? s.heap.objs.size=some { cls :=.type "list",data :=.seq ([]:List ug).toArray }:=kH _ _ (uU _ rfl)
 refine uf ?_
 show vm _ A.in1 (updateSeq s.heap.objs.size (·.push .none) >>= λ_=>updateSeq s.heap.objs.size (·.pop)) _ _ _
 refine uf (yL (s:={ s with heap:=H }) hS₁ rfl ?_)
 have hS₂:=wX (wH (·.push xA)) hS₁ rfl
 refine yL hS₂ rfl ?_
 have hS₃:=wX (wH (·.pop)) hS₂ rfl
 have oth:∀b o,b≠s.heap.objs.size->H.get? b=some o->((H.update s.heap.objs.size (wH (·.push xA))).update s.heap.objs.size (wH (·.pop))).get? b=some o :=
  λb o hb e=>(v9 _ _ (w6 hb)).trans ((v9 _ _ (w6 hb)).trans e)
 refine uD ⟨xy yd _,j6 (it:=s.heap.objs.size+1) (a:=a) (es:=es) (ep:=ep) (s:=s) hh (ye (wz hlt)) (ve (x8 _)) hSa hz es.size 0 _ _ _ rfl (vv _)
  ⟨t,0,oth a _ (w6 hSa) (kH _ _ ho1),T,hl,hp,λ_=>kQ T.rise,oth _ _ (ye (x8 _)) hit⟩ hS₃ rfl λh' acc' c' kk hS' ha =>?_⟩
 show vm _ A (load s.heap.objs.size >>= _) _ _ { s with heap:=h' }
 refine uf (BP hS' ?_)
 have kf:∀b o,s.heap.get? b=some o->h'.get? b=some o:=λb o e=>by
  have:=uO e
  exact kk b o (ve this) (ve (wz this)) (oth b o (ve this) (kH b o (uq _ e)))
 refine uD ?_
 rw[ha]
 exact h h' _ (iU w a es ep) kf (xq (uO hS'))
end
open PySem PySem.SetTable PyProof.Rows Srt
def Kd.sub {prog:uM}{w:vt}{κ:Type}(kd:Kd prog w κ)(M:ug->Prop):Kd prog w κ where
 El:=λh v k=>kd.El h v k/\M v
 hash:=kd.hash
 room:=kd.room
 keeps:=λx t=>⟨kd.keeps x.1 t,x.2⟩
 inj:=λx y=>kd.inj x.1 y.1
 add:=by
  intro A E s a es v k Q hr I els hv hz hin hnew
  refine kd.add hr I (λe he =>?_) hv.1 hz (λx tk htk=>hin ?_ tk htk) λx h' es' tk htk sb I' pm=>hnew ?_ h' es' tk htk sb I' pm
  ·obtain ⟨k',a1,a2,a3⟩:=els e he;exact ⟨k',a1,a2⟩
  ·obtain ⟨e,he,y⟩:=x
   obtain ⟨k',a1,a2,a3⟩:=els e he
   exact ⟨e,he,y,a3⟩
  ·rintro ⟨e,he,y,_⟩;exact x ⟨e,he,y⟩
section
variable  {prog:uM}{w:vt}{A:vz}{E:ug->uj->Prop}{s:uj}{O:yW}{key:ug->O.α}
theorem kZ {a:Addr}{es:Array (Int×ug)}{Q:ug->uj->Prop}(hh:A.handled=none)(I:cI w s.heap a es)(hz:es.size<300)(C:∀vs:List ug,vs.Perm (es.toList.map (·.2))->ji prog w s vs O key)
  (h:∀(h':Heap) (p:Addr) (out:List ug) (n:Nat),(∀b o,s.heap.get? b=some o->h'.get? b=some o)->s.heap.objs.size<=p->h'.get? p=some (seqObj "list" out.toArray n)->out.Perm (es.toList.map (·.2))->out.Pairwise (λx y=>O.kle (key x) (key y))->Q (.ref p) { s with heap:=h' }) :
  vm (vk prog w) A (call (.builtin "sorted") [.ref a]) Q E s:=by
 refine zc kind_sorted plain_sorted entry_sorted (args_sorted1 _) ?_
 unfold Builtin.«sorted»
 refine uf (m:=checkCount "sorted" 1 1 _) (uD ?_)
 refine uf (j7 (by simpa using hh) I hz λh1 vs pv k1 z1 =>?_)
 have hz':vs.length<=uL:=by
  rw[pv.length_eq,ue,uo]
  have:300<=uL:=by rw[yt];lia
  lia
 refine uf (zG ?_ hz')
 have hoL:(h1.push (seqObj "list" vs.toArray 0)).get? h1.objs.size=some (seqObj "list" vs.toArray 0):=uU _ rfl
 have kL:∀b o,s.heap.get? b=some o->(h1.push (seqObj "list" vs.toArray 0)).get? b=some o:=λb o e=>uq _ (k1 b o e)
 refine uf (wB (yD slot_list_sort ⟨_,hoL,rfl⟩ entry_list_sort (dX (key:=key) (O:=O) hoL hz' (λh2 h6 k6 =>?_) λout pm ps=>⟨_,rfl,?_⟩) (args_list_sort _)))
 ·exact (C vs pv).ok h2 _ h6 λb o e=>k6 b o (ve (uG (uO e) z1)) (kL b o e)
 ·obtain ⟨n,en⟩:=sortedHeap_at (out:=out.toArray) hoL
  refine uD ⟨_,rfl,h _ _ out n (λb o e =>?_) z1 en (pm.trans pv) ps⟩
  have lt:=uG (uO e) z1
  rw[sortedHeap_old (ve lt) (by rw[BQ];exact wz lt)]
  exact kL b o e
end
end STab
namespace L2
open PySem PySem.Spec PyProof.Rows
section
variable  {X:Cx}
def fD (w:vt)(a:Addr)(ys:List V):HO :=.ext λh=>∃es,STab.cI w h a es/\Vals ys (es.toList.map (·.2))
theorem qb {prog:uM}{w:vt}{H:Hp}{h:Heap}{a:Addr}{ys:List V}{es:Array (Int×ug)}(I:STab.cI w h a es)(r:Vals ys (es.toList.map (·.2))):bp prog w (upd H a (fD w a ys)) h a (fD w a ys):=by
 refine ⟨⟨es,I,r⟩,?_,λh1 h2 ⟨es',I',r'⟩ k=>⟨es',I'.at k,r'⟩⟩
 obtain ⟨ep,t,ho,_⟩:=I
 exact ⟨_,ho⟩
theorem j8:∀{ns:List Int} {xs:List ug} {prog:uM} {w:vt},xW xs ns->ItemsAre (intKind prog w) ns xs
 | _,_,_,_,.nil =>.nil
 | _,_,_,_,.cons n t r =>.cons (intKind_is _ _ _ _) (j8 r)
theorem Inv.tk {pins:List (Addr×Obj)}{σ:St}{H:Hp}{s:uj}(I:Inv X pins σ H s){b:Addr}{ns:List Int}(h:SqT X.K H b (ns.map V.int)):STab.TK X.prog X.w s.heap ns b:=by
 obtain ⟨its,r,⟨o,e,c,n,d⟩,_⟩:=I.tuple h
 exact ⟨o,_,n,e,c,d,j8 (by simpa using c0 r)⟩
theorem pull {α β:Type}{f:α -> β}{ts:List α}:∀{l:List β},(∀v∈l,∃t∈ts,v=f t)->∃us:List α,l=us.map f/\∀t∈us,t∈ts
 | [],_=>⟨[],rfl,λt h=>by cases h⟩
 | v :: l,h=>by
  obtain ⟨t,ht,e⟩:=h v uZ
  obtain ⟨us,e2,m⟩:=pull (l:=l) λv' hv=>h v' (u6 _ hv)
  refine ⟨t :: us,by rw[vg, <- e, <- e2],λt' ht' =>?_⟩
  rcases vn.mp ht' with rfl | h'
  ·exact ht
  ·exact m _ h'
theorem m5 (hh:X.A.handled=none)(hu:X.A.units+64<cLine):bO X (.type "set") (λxs H Q=>∃(p:Addr) (ts:List (Addr×List Int)),xs=[.ref p]/\(SqL X.K H p (ts.map λt =>.ref t.1)\/SqT X.K H p (ts.map λt =>.ref t.1))/\(∀t∈ts,SqT X.K H t.1 (t.2.map V.int))/\ts.length<300 ∧
  ∀(a:Addr) (us:List (Addr×List Int)),H a=none->(∀t∈us,t∈ts)->(us.map (·.2)).Nodup->(∀t∈ts,t.2∈us.map (·.2))->us.length<=ts.length->Q (.ref a) (upd H a (fD X.w a (us.map λt =>.ref t.1)))):=by
 intro pins s σ H xs vs Q I r h
 obtain ⟨p,ts,rfl,hs,ht,hl,q⟩:=h
 obtain ⟨u,rfl,ru⟩:=vals1 r
 cases (show u=uW p from ru)
 have goal:∀(items:Array ug),items.toList=(ts.map λt=>uW t.1)->∀(h':Heap) (es:Array (Int×ug)) (tk:Nat),s.toks<=tk->STab.cI X.w h' s.heap.objs.size es->STab.Good ((STab.fT X.prog X.w).sub (· ∈ items.toList)) h' es (ts.map (·.2)) →
   (∀b o,s.heap.get? b=some o->h'.get? b=some o)->EP X pins σ Q (.ref s.heap.objs.size) { s with heap:=h',toks:=tk }:=by
  intro items ei h' es tk _ S G k
  obtain ⟨us,eu,mu⟩:=pull (f:=λt:Addr×List Int=>uW t.1) (ts:=ts) (l:=es.toList.map (·.2)) (λv hv=>by
   obtain ⟨e,he,rfl⟩:=uH.mp hv
   obtain ⟨_,_,_,_,m⟩:=G.el e (vT.mp he)
   rw[ei] at m
   obtain ⟨t,ht',e'⟩:=uH.mp m
   exact ⟨t,ht',e'.symm⟩)
  have tk':∀t∈us,STab.TK X.prog X.w h' t.2 t.1:=λt m=>(I.tk (ht t (mu t m))).keep λb o _ e=>k b o e
  have elu:∀t∈us,((STab.fT X.prog X.w).sub (· ∈ items.toList)).El h' (.ref t.1) t.2:=λt m=>⟨⟨t.1,rfl,tk' t m⟩,by
   rw[ei];exact uH.mpr ⟨t,mu t m,rfl⟩⟩
  have nd:(us.map (·.2)).Nodup:=by
   have d:=G.dis
   have d2:(es.toList.map (·.2)).Pairwise (λv v'=>∀k,((STab.fT X.prog X.w).sub (· ∈ items.toList)).El h' v k->¬ ((STab.fT X.prog X.w).sub (· ∈ items.toList)).El h' v' k):=by
    rw[vL];exact d
   rw[eu,vL] at d2
   unfold List.Nodup
   rw[vL]
   refine d2.imp_of_mem λ{t t'} m m' x e=>x t.2 (elu t m) ?_
   have:=elu t' m'
   rw[<- e] at this
   exact this
  have cov:∀t∈ts,t.2∈us.map (·.2):=λt m=>by
   obtain ⟨e,he,x,_⟩:=G.all t.2 (uH.mpr ⟨t,m,rfl⟩)
   have:e.2∈us.map λt=>uW t.1:=by rw[<- eu];exact uH.mpr ⟨e,vT.mpr he,rfl⟩
   obtain ⟨u,hu',e'⟩:=uH.mp this
   obtain ⟨b,eb,x⟩:=x
   rw[<- e'] at eb
   injection eb with eb
   subst eb
   exact uH.mpr ⟨u,hu',(tk' u hu').inj x⟩
  have hlen:us.length<=ts.length:=by
   have:=G.len
   rw[ue] at this
   have e2:=congrArg List.length eu
   rw[ue,ue,uo] at e2
   lia
  refine ⟨.ref s.heap.objs.size,_,I.laid k (ur _) (qb (ys:=us.map λt=>V.ref t.1) S (by rw[eu];exact dP)),rfl,q _ us (I.hok.fresh (ur _)) mu nd cov hlen⟩
 have rm:((STab.fT X.prog X.w).sub (λv=>True)).room X.A.in1.in1.in1:=by show X.A.units+1+1+1<cLine;lia
 have itm:∀(its:List ug),its=(ts.map λt=>uW t.1)->∀(i:Nat) (v:ug),its.toArray[i]? = some v->∃q,(ts.map (·.2))[i]? = some q/\((STab.fT X.prog X.w).sub (· ∈ its.toArray.toList)).El s.heap v q:=by
  intro its ei i v hv
  rw[w4,ei,uF] at hv
  cases ht':ts[i]? with
  | none=>rw[ht'] at hv;cases hv
  | some t =>
   rw[ht'] at hv
   cases hv
   have m:=uS ht'
   refine ⟨t.2,by rw[uF,ht'];rfl,⟨t.1,rfl,I.tk (ht t m)⟩,?_⟩
   show uW t.1∈its
   rw[ei]
   exact uH.mpr ⟨t,m,rfl⟩
 rcases hs with hs | hs
 ·obtain ⟨its,rv,⟨o,n,e,c,dn,d⟩,z⟩:=I.list hs
  have ei:=cP rv
  have lz:its.length=ts.length:=by rw[ei,ue]
  refine STab.call_set_list (kd:=(STab.fT X.prog X.w).sub (· ∈ its.toArray.toList)) (items:=its.toArray) (ks:=ts.map (·.2)) hh rm ⟨o,e,c,n,d⟩ (by simp[lz]) (λi v hv =>?_) (by simpa [lz] using hl) (goal its.toArray (by simpa using ei))
  exact itm its ei i v hv
 ·obtain ⟨its,rv,⟨o,e,c,n,d⟩,z⟩:=I.tuple hs
  have ei:=cP rv
  have lz:its.length=ts.length:=by rw[ei,ue]
  refine STab.gG (kd:=(STab.fT X.prog X.w).sub (· ∈ its.toArray.toList)) (items:=its.toArray) (ks:=ts.map (·.2)) hh rm ⟨o,e,c,n,d⟩ (by simp[lz]) (λi v hv =>?_) (by simpa [lz] using hl) (goal its.toArray (by simpa using ei))
  exact itm its ei i v hv
theorem Inv.fD {pins:List (Addr×Obj)}{σ:St}{H:Hp}{s:uj}(I:Inv X pins σ H s){a:Addr}{ys:List V}(h:H a=some (fD X.w a ys)):∃es,STab.cI X.w s.heap a es/\Vals ys (es.toList.map (·.2)):=by
 exact (I.hok a _ h).1
theorem ie (hh:X.A.handled=none):bO X (.builtin "sorted") (λxs H Q=>∃(a:Addr) (ts:List (Addr×List Int)),xs=[.ref a]/\H a=some (fD X.w a (ts.map λt =>.ref t.1))/\(∀t∈ts,SqT X.K H t.1 (t.2.map V.int)/\t.2≠[])/\ts.length<300 ∧
  ∀(l:Addr) (out:List (Addr×List Int)),H l=none->out.Perm ts->out.Pairwise (λa b=>HT.lexLt b.2 a.2=false)->Q (.ref l) (upd H l (.lst (out.map λt =>.ref t.1)))):=by
 intro pins s σ H xs us Q I r h
 obtain ⟨a,ts,rfl,hs,ht,hl,q⟩:=h
 obtain ⟨u,rfl,ru⟩:=vals1 r
 cases (show u=uW a from ru)
 obtain ⟨es,S,rv⟩:=I.fD hs
 have ei:=cP rv
 have lz:es.size=ts.length:=by have:=rv.length;simp at this;lia
 have tup:∀t∈ts,Srt.cw s.heap (uW t.1) t.2:=λt hm=>by
  obtain ⟨jts,jr,⟨jo,je,jc,jn,jd⟩,_⟩:=I.tuple (ht t hm).1
  exact ⟨t.1,jo,_,jn,rfl,je,jc,jd,by simpa using c0 jr⟩
 have hv:∀v∈es.toList.map (·.2),∃ns,Srt.cw s.heap v ns/\ns≠[]:=λv hv=>by
  rw[ei] at hv
  obtain ⟨t,hm,rfl⟩:=uH.mp hv
  exact ⟨t.2,tup t hm,(ht t hm).2⟩
 refine STab.kZ (O:=Srt.lexOrd) (key:=Srt.bX s.heap) hh S (by lia) (λvs pv=>Srt.eV λv hm=>hv v (pv.mem_iff.mp hm)) λh' l out m k hl' el pm ps =>?_
 rw[ei] at pm
 obtain ⟨out',pm',rfl⟩:=gB pm
 have z:ts.length<=uL:=by have:300<=uL:=(by rw[yt];lia);lia
 refine ⟨.ref l,_,I.newList k hl' el dP (by rw[ue,pm'.length_eq];exact z),rfl,q l _ (I.hok.fresh hl') pm' ?_⟩
 refine (vL.mp ps).imp_of_mem λ{a b} ha hb le =>?_
 have le':HT.lexLt (Srt.bX s.heap (uW b.1)) (Srt.bX s.heap (uW a.1))=false:=le
 rw[(tup a (pm'.mem_iff.mp ha)).ints,(tup b (pm'.mem_iff.mp hb)).ints] at le'
 exact le'
end
open PySem PySem.Spec PyProof.Rows
section
variable  {X:Cx}{w:vt}
theorem gJ (hw:X.w=w)(hh:X.A.handled=none)(hu:X.A.units+64<cLine):bO X (.type "set") (λxs H Q=>∃(p:Addr) (ts:List (Addr×List Int)),xs=[.ref p]/\(SqL X.K H p (ts.map λt =>.ref t.1)\/SqT X.K H p (ts.map λt =>.ref t.1))/\(∀t∈ts,SqT X.K H t.1 (t.2.map V.int))/\ts.length<300 ∧
  ∀(a:Addr) (us:List (Addr×List Int)),H a=none->(∀t∈us,t∈ts)->(us.map (·.2)).Nodup->(∀t∈ts,t.2∈us.map (·.2))->us.length<=ts.length->Q (.ref a) (upd H a (fD w a (us.map λt =>.ref t.1)))):=by
 subst hw
 exact m5 hh hu
theorem dy (hw:X.w=w)(hh:X.A.handled=none):bO X (.builtin "sorted") (λxs H Q=>∃(a:Addr) (ts:List (Addr×List Int)),xs=[.ref a]/\H a=some (fD w a (ts.map λt =>.ref t.1))/\(∀t∈ts,SqT X.K H t.1 (t.2.map V.int)/\t.2≠[])/\ts.length<300 ∧
  ∀(l:Addr) (out:List (Addr×List Int)),H l=none->out.Perm ts->out.Pairwise (λa b=>HT.lexLt b.2 a.2=false)->Q (.ref l) (upd H l (.lst (out.map λt =>.ref t.1)))):=by
 subst hw
 exact ie hh
end
open PySem PySem.Spec PyProof.Rows
section
variable  {X:Cx}
theorem iV {A:vz}{s:uj}{k:Int}{t:Tok}{its:List ug}{ns:List Int}(hi:xW its ns):∀y,y∈its.toArray->yi A s y (.int k t) (isInt k y):=λy hy =>
 (eq_isInt k t hi y (by simpa using hy)).at _ _
theorem iW:∀{ns:List Int} {xs:List ug} {prog:uM} {w:vt},xW xs ns->ItemsAre (intKind prog w) ns xs
 | _,_,_,_,.nil =>.nil
 | _,_,_,_,.cons n t r =>.cons (intKind_is _ _ _ _) (iW r)
theorem Inv.tkA {pins:List (Addr×Obj)}{σ:St}{H:Hp}{s:uj}(I:Inv X pins σ H s){b:Addr}{ns:List Int}(h:SqT X.K H b (ns.map V.int))(prog:uM)(w:vt):IsTupleKey (intKind prog w) s.heap ns b:=by
 obtain ⟨its,r,⟨o,e,c,n,d⟩,_⟩:=I.tuple h
 exact ⟨o,_,n,e,c,d,iW (by simpa using intsAre_of r)⟩
theorem Inv.eqT {pins:List (Addr×Obj)}{σ:St}{H:Hp}{s:uj}(I:Inv X pins σ H s){A:vz}(hu:A.units<cLine){a b:Addr}{ns ms:List Int}(h1:SqT X.K H a (ns.map V.int))(h2:SqT X.K H b (ms.map V.int)):yi A s (.ref a) (.ref b) (decide (ns=ms)) :=
 λprog w E Q q=>AO hu (I.tkA h1 prog w) (I.tkA h2 prog w) q
theorem cy:∀{ps:List (Addr×List Int)} {us:List ug},Vals (ps.map λx=>V.ref x.1) us->us=ps.map λx=>uW x.1
 | [],_,r=>by cases r;rfl
 | p :: ps,_,r=>by
  cases r with
  | cons h t=>rw[vg, <- cy t,show _=uW p.1 from h]
noncomputable def bP (ts:List (Addr×List Int))(m:List Int):ug->Bool:=λv=>decide (∃t∈ts,v = .ref t.1/\t.2=m)
theorem bN {pins:List (Addr×Obj)}{σ:St}{H:Hp}{s:uj}(I:Inv X pins σ H s){ts:List (Addr×List Int)}(ht:∀t∈ts,SqT X.K H t.1 (t.2.map V.int)){m:List Int}{t:Addr×List Int}(hm:t∈ts):bP ts m (.ref t.1)=decide (t.2=m):=by
 unfold bP
 by_cases e:t.2=m
 ·rw[decide_eq_true e,decide_eq_true ⟨t,hm,rfl,e⟩]
 ·rw[decide_eq_false e,decide_eq_false]
  rintro ⟨t',m',e1,e2⟩
  injection e1 with e1
  have:=I.iu (ht t hm) (by rw[e1];exact ht t' m')
  have inj:Function.Injective V.int:=λa b h=>by injection h
  have:t.2=t'.2:=(List.map_inj_right (λx y h=>inj h)).mp this
  exact e (this.trans e2)
theorem k7 {pins:List (Addr×Obj)}{σ:St}{H:Hp}{s:uj}(I:Inv X pins σ H s){ts:List (Addr×List Int)}(ht:∀t∈ts,SqT X.K H t.1 (t.2.map V.int)){m:List Int}:∀us:List (Addr×List Int),(∀t∈us,t∈ts)->(us.map λt=>uW t.1).countP (bP ts m)=(us.map (·.2)).count m
 | [],_=>rfl
 | u :: us,h=>by
  rw[vg,vg,zM,Bv,k7 I ht us (λt hm=>h t (u6 _ hm)),bN I ht (h u uZ)]
  by_cases e:u.2=m
  ·rw[decide_eq_true e,e];simp
  ·rw[decide_eq_false e];simp[e]
theorem gc {pins:List (Addr×Obj)}{σ:St}{H:Hp}{s:uj}(I:Inv X pins σ H s){ts:List (Addr×List Int)}(ht:∀t∈ts,SqT X.K H t.1 (t.2.map V.int)){m:List Int}:∀us:List (Addr×List Int),(∀t∈us,t∈ts)->(us.map λt=>uW t.1).any (bP ts m)=decide (m∈us.map (·.2))
 | [],_=>by simp
 | u :: us,h=>by
  rw[vg,vg,zA,gc I ht us (λt hm=>h t (u6 _ hm)),bN I ht (h u uZ)]
  by_cases e:u.2=m
  ·rw[decide_eq_true e,e];simp
  ·rw[decide_eq_false e,BV]
   have:(m∈u.2 :: us.map (·.2))↔m∈us.map (·.2):=by
    rw[vn]
    exact ⟨λh=>h.elim (λh=>absurd h.symm e) id,.inr⟩
   exact decide_eq_decide.mpr this.symm
theorem qc (hu:X.A.units+8<cLine):OpR X (wq .In) (λx y H Q=>∃(p b:Addr) (ts:List (Addr×List Int)) (m:List Int),x = .ref b/\y = .ref p/\H p=some (.tup (ts.map λt =>.ref t.1))/\(∀t∈ts,H t.1=some (.tup (t.2.map V.int)))/\H b=some (.tup (m.map V.int))/\Q (.bl (decide (m∈ts.map (·.2)))) H):=by
 intro pins s σ H x y v u Q I rx ry h
 obtain ⟨p,b,ts,m,rfl,rfl,hp,ht,hb,q⟩:=h
 cases rx
 cases ry
 have ht':∀t∈ts,SqT X.K H t.1 (t.2.map V.int):=λt hm=>SqT.of (ht t hm)
 obtain ⟨its,r,pl,hz⟩:=I.tuple (SqT.of (K:=X.K) hp)
 have ei:=cy r
 refine Bj (bP ts m) pl (λy hy =>?_) ⟨.bl _,H,I,rfl,?_⟩
 ·have hy':y∈its:=by simpa using hy
  rw[ei] at hy'
  obtain ⟨t,hm,rfl⟩:=uH.mp hy'
  rw[bN I ht' hm]
  exact I.eqT (by show X.A.units+1<cLine;omega) (ht' t hm) (SqT.of hb)
 ·rw[show its.toArray.any (bP ts m)=its.any (bP ts m) by simp,ei,gc I ht' ts (λt h=>h)]
  exact q
theorem fU:∀{its:List ug} {ns:List Int},xW its ns->∃xs:List (Int×Tok),its=xs.map (λp=>xZ p.1 p.2)/\xs.map (·.1)=ns
 | _,_,.nil=>⟨[],rfl,rfl⟩
 | _,_,.cons n t r=>by
  obtain ⟨xs,e1,e2⟩:=fU r
  exact ⟨(n,t) :: xs,by rw[vg, <- e1],by rw[vg,e2]⟩
end
end L2
namespace HT
open PySem PySem.Spec PyProof.Rows
section
variable  {prog:uM}{w:vt}{A:vz}{E:ug->uj->Prop}{s:uj}
end
end HT
namespace L2
open PySem PySem.Spec PyProof.Rows
section
variable  {X:Cx}
theorem fV:bO X (.type "range") (λxs H Q=>∃n:Int,xs=[.int n]/\∀a,H a=none->Q (.ref a) (upd H a (.rng 0 n))):=by
 intro pins s σ H xs us Q I r h
 obtain ⟨n,rfl,q⟩:=h
 obtain ⟨u,rfl,⟨t,rfl⟩⟩:=vals1 r
 refine call_range_1 ?_
 exact ⟨.ref s.heap.objs.size,_,I.laid (o :=.rng 0 n) (λb ob q=>uq _ q) (ur _) ⟨_,_,_,uU _ rfl⟩,rfl,q _ (I.hok.fresh (ur _))⟩
end
section
variable  {prog:uM}{w:vt}{A:vz}{E:ug->uj->Prop}{s:uj}
end
section
variable  {X:Cx}
theorem k8:∀{vs:List ug},(∀(i:Nat) (x:ug),vs[i]? = some x->∃t,x=xZ i t)->Vals ((vC vs.length).map λi=>V.int (i:Nat)) vs:=by
 suffices h:∀(vs:List ug) (k:Nat),(∀(i:Nat) (x:ug),vs[i]? = some x->∃t,x=xZ ((i+k:Nat):Int) t)->Vals ((List.range' k vs.length).map λi=>V.int (i:Nat)) vs by
  intro vs hv
  have:=h vs 0 hv
  rw[List.range_eq_range']
  exact this
 intro vs
 induction vs with
 | nil=>intro k _;exact .nil
 | cons x vs ih =>
  intro k hv
  rw[vh,List.range'_succ,vg]
  refine .cons ?_ (ih (k+1) λi y hy =>?_)
  ·obtain ⟨t,e⟩:=hv 0 x rfl
   exact ⟨t,by rw[e,wY]⟩
  ·obtain ⟨t,e⟩:=hv (i+1) y (by rw[wN];exact hy)
   exact ⟨t,by rw[e,show i+1+k=i+(k+1) by lia]⟩
end
open PySem PyProof.Rows
section
variable  {X:Cx}
def qd (ns ms:List Int)(j:Nat):Bool:=ns.getD j 0 == ms.getD j 0
theorem j9 {ns ms:List Int}(h:ns.length=ms.length):((vC ns.length).all λj=>qd ns ms j)=decide (ns=ms):=by
 rw[xF,decide_eq_true_iff,yx]
 constructor
 ·intro hh
  refine List.ext_getElem h λj h1 h2 =>?_
  have:=hh j (vY.mpr h1)
  unfold qd at this
  rw[wu,wu,ux h1,ux h2] at this
  exact of_decide_eq_true (by simpa using this)
 ·rintro rfl j _
  exact beq_self_eq_true _
theorem intAt {ns:List Int}{us:List ug}(r:Vals (ns.map V.int) us){j:Nat}(h:j<us.toArray.size):∃t,us.toArray[j] = .int (ns.getD j 0) t:=by
 have l:=r.length
 rw[ue] at l
 rw[uu] at h
 have e1:(ns.map V.int)[j]? = some (.int (ns.getD j 0)):=by
  rw[uF,wu,ux (by lia)]
  rfl
 obtain ⟨u,g1,q1⟩:=r.get e1
 have f1:us.toArray[j]=u:=by simp[um] at g1;obtain ⟨_,g⟩:=g1;simpa using g
 rw[f1]
 exact q1
theorem qe {k:Nat}(hr:bT k X.A):OpR X (wq .NotEq) (λx y H Q=>∃(a b:Addr) (ns ms:List Int),x = .ref a/\y = .ref b/\SqL X.K H a (ns.map V.int)/\SqL X.K H b (ms.map V.int)/\Q (.bl (!decide (ns=ms))) H):=by
 intro pins s σ H x y v u Q I rx ry h
 obtain ⟨a,b,ns,ms,rfl,rfl,h1,h2,q⟩:=h
 cases (show v=uW a from rx)
 cases (show u=uW b from ry)
 obtain ⟨its,r1,⟨⟨c1,d1,da1,sl1⟩,n1,e1,k1,_,k3⟩,_⟩:=I.list h1
 obtain ⟨its2,r2,⟨⟨c2,d2,da2,sl2⟩,n2,e2,g1,_,g3⟩,_⟩:=I.list h2
 simp only at k1 k3 g1 g3
 subst k1 k3 g1 g3
 have l1:=r1.length
 have l2:=r2.length
 rw[ue] at l1 l2
 have hu:=hr.un
 have hu1:X.A.units<cLine:=by lia
 by_cases hl:ns.length=ms.length
 ·refine xD (op :=.NotEq) ⟨_,e1,rfl⟩ ⟨_,e2,rfl⟩ F.slot_list_ne Bw (Bn _ _) (SeqAt.list_neAt a b its.toArray its2.toArray n1 n2 d1 d2 sl1 sl2 (by rw[uu,uu];lia) (qd ns ms)) ⟨e1,e2,?_,?_⟩ hu1
  ·intro j h1 h2
   obtain ⟨t1,g1⟩:=intAt r1 h1
   obtain ⟨t2,g2⟩:=intAt r2 h2
   rw[g1,g2]
   exact ym _ t1 _ t2
  ·have ez:its.toArray.size=ns.length:=by rw[uu];lia
   rw[ez,j9 hl]
   exact ⟨(λz=>nomatch z),⟨.bl _,H,I,rfl,q⟩⟩
 ·have ne:ns≠ms:=λz=>hl (by rw[z])
  rw[decide_eq_false ne] at q
  refine xD (op :=.NotEq) ⟨_,e1,rfl⟩ ⟨_,e2,rfl⟩ F.slot_list_ne Bw (Bn _ _) (SeqAt.list_ne_lengthsAt a b its.toArray its2.toArray n1 n2 d1 d2 sl1 sl2 (by simp;lia)) ⟨e1,e2,?_⟩ hu1
  exact ⟨(λz=>nomatch z),⟨.bl true,H,I,rfl,q⟩⟩
end
end L2
namespace HT
open PySem PySem.Spec PyProof.Rows
section
variable  {prog:uM}{w:vt}{A:vz}{R:Result->uj->Prop}{I:Addr}{fp wr:List Addr}{n:Nat}{P:Nat->ug->Prop}{St:Nat->Heap->Prop}{kw:List (Str×ug)}
end
section
variable  {prog:uM}{w:vt}{A:vz}{E:ug->uj->Prop}{s:uj}{l:Addr}{xs:Array (Int×Tok)}
end
end HT
namespace L2
open PySem PyProof.Rows
section
variable  {X:Cx}{x:Str}{id:String}{e:Expr}{es:List Expr}{kws:List Keyword}{p pos:Pos}{t tk:TA}{ks:List Str}{r:List V->List V->Hp->VK->Prop}
end
open PySem PyProof.Rows
section
variable  {X:Cx}
theorem sq {ns:List Int}{j:Nat}(h:j<ns.length):ns.getD j 0∈ns:=by
 rw[wu,ux h]
 exact yy h
theorem sr {ns:List Int}{a:Int}(h:a∈ns):∃j,j<ns.length/\ns.getD j 0=a:=by
 obtain ⟨j,hj,e⟩:=Aq h
 exact ⟨j,hj,by rw[wu,ux hj];exact e⟩
end
open PySem PyProof.Rows
section
variable  {X:Cx}
def Wd (i:Int):Prop:=i.natAbs<2 ^ 4000
theorem Wd.bits {i:Int}(h:Wd i):Builtin.Int.intBits i<=2 ^ 20:=by
 unfold Builtin.Int.intBits
 split
 ·exact vv _
 ·have:i.natAbs.log2<4000:=by
   rcases Nat.eq_zero_or_pos i.natAbs with h0 | hp
   ·rw[h0];decide
   ·exact (Bp (by lia)).mpr h
  lia
def tP (i j:Int):Prop:=Wd i/\Wd j
theorem jv:OpR X (binaryOp .Mult) (rI tP λi j =>.int (i*j)):=opI λ_ _ _ _ _ _ _ hc q=>mul_int q (IntMulOk.of_bits hc.1.bits hc.2.bits)
def tQ (_ j:Int):Prop:=0<j/\Wd j
theorem oK:OpR X (binaryOp .FloorDiv) (rI tQ λi j =>.int (i/j)):=opI λi j _ _ _ _ _ hc q=>by
 have h1:(0:Int)<j:=hc.1
 have h2:j.natAbs.log2<9000:=by
  have:j.natAbs.log2<4000:=(Bp (by lia)).mpr hc.2
  lia
 refine floordiv_int (by lia) ?_ (.inl (zh h2))
 rw[xT i (by lia)]
 exact q
end
section
variable  {P:uM}{w:vt}{K:uh}{mg:Str->Option ug}{base:Heap}
end
end L2
namespace L2.Rem
open PySem PySem.SeqAt PySem.MeetsSeq
open AutoSeq1 (wpAny_loadPart')
theorem qf (l:Addr)(items:Array ug)(n:Nat)(x:ug)(e:ug->Bool)(j:Nat)(hj:j<items.size)(hit:e items[j]=true)(k:Nat)(hs1:items.size<=uL) :
  ∀i:Nat,j-i=k->i<=j->(∀m (hm:m<items.size),i<=m->m<j->e items[m]=false)->Meets (Builtin.«list.remove.loop» ⟨[.ref l,x,Al i],[]⟩)
   (λA R s=>(s.heap.get? l=some { cls :=.type "list",dict:=none,data :=.seq items n,slots := #[] }/\∀y,y∈items->EqAt A.in1 s y x (e y))/\R (.ok (.ret .none)) { s with heap:=s.heap.update l (wH λxs=>xs.eraseIdxIfInBounds j) }):=by
 induction k with
 | zero =>
  rintro i hk hij hno prog w A R ⟨hp,g,d,tk,os⟩ ⟨⟨hl,he⟩,h⟩
  obtain rfl:i=j:=by lia
  wp_walk using wpAny_loadPart' hl
  rw[show items[((i:Nat):Int).toNat]? = some items[i] by simp[hj]]
  refine uf (he _ (zq hj) prog w _ _ ?_)
  rw[hit]
  wp_walk using (yL hl rfl (hz:=hs1) (_hz':=vc (size_erased items i) (xM hs1))),wpAny_loadPart' hl
  simpa using h
 | succ k ih =>
  rintro i hk hij hno prog w A R ⟨hp,g,d,tk,os⟩ ⟨⟨hl,he⟩,h⟩
  have lt:i<items.size:=by lia
  wp_walk using wpAny_loadPart' hl
  rw[show items[((i:Nat):Int).toNat]? = some items[i] by simp[lt]]
  refine uf (he _ (zq lt) prog w _ _ ?_)
  rw[hno i lt (ur _) (by lia)]
  wp_walk
  rw[show ((i:Int)+1)=((i+1:Nat):Int) by push_cast;rfl]
  exact ⟨xy plain_remove_loop _,vM entry_remove_loop (by
   rw[vV plain_remove_loop _]
   exact ih (i+1) (by lia) (by lia) (λm hm h1 h2=>hno m hm (by lia) h2) prog w A R _ ⟨⟨hl,he⟩,h⟩)⟩
theorem l6 (l:Addr)(items:Array ug)(n:Nat)(x:ug)(e:ug->Bool)(j:Nat)(hj:j<items.size)(hit:e items[j]=true)(hno:∀m (hm:m<items.size),m<j->e items[m]=false)(hs1:items.size<=uL) :
  Meets (Builtin.«list.remove» ⟨[.ref l,x],[]⟩)
   (λA R s=>(s.heap.get? l=some { cls :=.type "list",dict:=none,data :=.seq items n,slots := #[] }/\∀y,y∈items->EqAt A.in1 s y x (e y))/\R (.ok (.ret .none)) { s with heap:=s.heap.update l (wH λxs=>xs.eraseIdxIfInBounds j) }):=by
 rintro prog w A R ⟨hp,g,d,tk,os⟩ ⟨⟨hl,he⟩,h⟩
 wp_walk using wpAny_loadPart' hl
 exact ⟨xy plain_remove_loop _,vM entry_remove_loop (by
  rw[vV plain_remove_loop _]
  exact qf l items n x e j hj hit _ hs1 0 rfl (vv _) (λm hm _ h2=>hno m hm h2) prog w A R _ ⟨⟨hl,he⟩,h⟩)⟩
end L2.Rem
namespace L2
open PySem PySem.Spec PyProof.Rows
section
variable  {X:Cx}
theorem eE {α:Type}[BEq α][LawfulBEq α]{m:α}:∀{l:List α},m∈l->∃j,l[j]? = some m/\(∀i<j,∀x,l[i]? = some x->x≠m)/\l.erase m=l.eraseIdx j
 | [],h=>by cases h
 | x :: l,h=>by
  by_cases e:x=m
  ·subst e
   exact ⟨0,rfl,λi hi=>by lia,by simp⟩
  ·obtain ⟨j,h1,h2,h3⟩:=eE (l:=l) (by rcases vn.mp h with z | z;exact absurd z.symm e;exact z)
   refine ⟨j+1,by simpa using h1,λi hi y hy =>?_,?_⟩
   ·cases i with
    | zero =>
     have:x=y:=by simpa using hy
     rw[<- this];exact e
    | succ i=>exact h2 i (by lia) y (by simpa using hy)
   ·rw[List.erase_cons_tail (by simpa using e),h3]
    rfl
def tR:V->List V->Hp->VK->Prop:=λx vs H Q=>∃(l b:Addr) (ts:List (Addr×List Int)) (m:List Int),x = .ref l/\vs=[.ref b]/\H l=some (.lst (ts.map λt =>.ref t.1))/\(∀t∈ts,H t.1=some (.tup (t.2.map V.int)))/\H b=some (.tup (m.map V.int))/\m∈ts.map (·.2) ∧
 ∀us:List (Addr×List Int),us.map (·.2)=(ts.map (·.2)).erase m->(∀u∈us,u∈ts)->Q .non (upd H l (.lst (us.map λt =>.ref t.1)))
theorem su (hu:X.A.units+8<cLine):MtM X "list.remove" tR:=by
 intro pins s σ H x vs v us Q I rx rv h
 obtain ⟨l,b,ts,m,rfl,rfl,hH,ht,hb,hm,q⟩:=h
 cases rx
 obtain ⟨ub,rfl,rb⟩:=vals1 rv
 cases (show ub=uW b from rb)
 have ht':∀t∈ts,SqT X.K H t.1 (t.2.map V.int):=λt hm=>SqT.of (ht t hm)
 obtain ⟨z,its,n,r,hl,e⟩:=I.pG hH
 have ei:=cy r
 obtain ⟨j,j1,j2,j3⟩:=eE hm
 have lt:j<ts.length:=by
  have:=(um.mp j1).1
  rwa [ue] at this
 have li:its.length=ts.length:=by rw[ei,ue]
 have kat:∀(i:Nat) (hi:i<its.toArray.size),∃t∈ts,its.toArray[i]=uW t.1/\(ts.map (·.2))[i]? = some t.2:=λi hi=>by
  rw[uu] at hi
  obtain ⟨t,et⟩:∃t,ts[i]? = some t:=⟨_,ux (show i<ts.length by lia)⟩
  refine ⟨t,uS et,?_,?_⟩
  ·have:its[i]? = some (uW t.1):=by rw[ei,uF,et];rfl
   simp[um] at this
   obtain ⟨_,g⟩:=this
   simpa using g
  ·rw[uF,et];rfl
 refine zx xh ⟨_,e,rfl⟩ zd (yS _ _) (Rem.l6 l its.toArray n (.ref b) (bP ts m) j (by rw[uu];lia) ?_ ?_ (by rw[uu,li];have:=r.length;rw[ue] at this;rw[ue] at z;lia)) ⟨⟨e,?_⟩,?_⟩
 ·obtain ⟨t,ht2,e1,e2⟩:=kat j (by rw[uu];lia)
  rw[e1,bN I ht' ht2]
  rw[j1] at e2
  rw[decide_eq_true (vw e2).symm]
 ·intro i hi hij
  obtain ⟨t,ht2,e1,e2⟩:=kat i hi
  rw[e1,bN I ht' ht2,decide_eq_false (j2 i hij _ e2)]
 ·intro y hy
  have hy':y∈its:=by simpa using hy
  rw[ei] at hy'
  obtain ⟨t,hm2,rfl⟩:=uH.mp hy'
  rw[bN I ht' hm2]
  exact I.eqT (by show X.A.units+1<cLine;lia) (ht' t hm2) (SqT.of hb)
 ·have ra:Vals ((ts.eraseIdx j).map λt=>V.ref t.1) (its.eraseIdx j):=by
   rw[ei]
   have g:∀(l:List (Addr×List Int)) (n:Nat),Vals ((l.eraseIdx n).map λt=>V.ref t.1) ((l.map λt=>uW t.1).eraseIdx n):=by
    intro l
    induction l with
    | nil=>intro n;exact .nil
    | cons a l ih =>
     intro n
     cases n with
     | zero =>
      have:∀l:List (Addr×List Int),Vals (l.map λt=>V.ref t.1) (l.map λt=>uW t.1):=by
       intro l
       induction l with
       | nil=>exact .nil
       | cons a l ih=>exact .cons rfl ih
      exact this l
     | succ n=>exact .cons rfl (ih n)
   exact g ts j
  have le:(ts.eraseIdx j).length<=ts.length:=by rw[Ag];split <;> lia
  refine ⟨.non,_,I.pF (its':=its.eraseIdx j) hH e ?_ ra (by rw[ue] at z ⊢;lia),rfl,q (ts.eraseIdx j) ?_ λu hu=>List.mem_of_mem_eraseIdx hu⟩
  ·apply x9.mp
   unfold Array.eraseIdxIfInBounds
   rw[dif_pos (by rw[uu];lia)]
   simp
  ·rw[j3]
   have g:∀(l:List (Addr×List Int)) (n:Nat),(l.eraseIdx n).map (·.2)=(l.map (·.2)).eraseIdx n:=by
    intro l
    induction l with
    | nil=>intro n;rfl
    | cons a l ih =>
     intro n
     cases n with
     | zero=>rfl
     | succ n=>show a.2 :: _=a.2 :: _;rw[ih n]
   exact g ts j
theorem k9 (hu:X.A.units+8<cLine):OpR X (wq .NotIn) (λx y H Q=>∃(p b:Addr) (ts:List (Addr×List Int)) (m:List Int),x = .ref b/\y = .ref p/\H p=some (.lst (ts.map λt =>.ref t.1))/\(∀t∈ts,H t.1=some (.tup (t.2.map V.int)))/\H b=some (.tup (m.map V.int))/\Q (.bl (!decide (m∈ts.map (·.2)))) H):=by
 intro pins s σ H x y v u Q I rx ry h
 obtain ⟨p,b,ts,m,rfl,rfl,hp,ht,hb,q⟩:=h
 cases rx
 cases ry
 have ht':∀t∈ts,SqT X.K H t.1 (t.2.map V.int):=λt hm=>SqT.of (ht t hm)
 obtain ⟨its,r,pl,hz⟩:=I.list (SqL.of (K:=X.K) hp)
 have ei:=cy r
 refine AB (bP ts m) pl.isList (λy hy =>?_) ⟨.bl _,H,I,rfl,?_⟩
 ·have hy':y∈its:=by simpa using hy
  rw[ei] at hy'
  obtain ⟨t,hm,rfl⟩:=uH.mp hy'
  rw[bN I ht' hm]
  exact I.eqT (by show X.A.units+1<cLine;lia) (ht' t hm) (SqT.of hb)
 ·rw[show its.toArray.any (bP ts m)=its.any (bP ts m) by simp,ei,gc I ht' ts (λt h=>h)]
  exact q
end
open PySem PySem.Spec PyProof.Rows
def qg:Stmt->List Stmt
 | .For _ _ body _ _=>body
 | _=>[]
theorem iX {α:Type}{g:α -> Addr}{ts:List α}{i:Nat}{x:V}(e:(ts.map λt=>V.ref (g t))[i]? = some x):∃u,ts[i]? = some u/\x = .ref (g u):=by
 rw[uF] at e
 cases z:ts[i]? with
 | none=>rw[z] at e;cases e
 | some tt=>rw[z] at e;exact ⟨tt,rfl,(vw e).symm⟩
theorem oM {ns:List Int}{i:Nat}{x:V}(e:(ns.map V.int)[i]? = some x):∃u,ns[i]? = some u/\x = .int u:=by
 rw[uF] at e
 cases z:ns[i]? with
 | none=>rw[z] at e;cases e
 | some tt=>rw[z] at e;exact ⟨tt,rfl,(vw e).symm⟩
theorem sv {xs:List Int}{d:Int}(h0:0<=d)(h1:d<xs.length):∃v,v∈xs/\atI (xs.map V.int) d=some (.int v):=by
 obtain ⟨n,rfl⟩:∃n:Nat,d=n:=⟨d.toNat,by lia⟩
 have hn:n<xs.length:=by lia
 refine ⟨xs[n],yy hn,dH ?_⟩
 rw[uF,ux hn]
 rfl
theorem tS (k:Int):∀ps:List Int,inV (.int k) (ps.map V.int)=decide (k∈ps)
 | []=>by simp[inV]
 | p :: ps=>by
  have ih:=tS k ps
  unfold inV at ih ⊢
  rw[vg,zA,ih]
  have e:eqV (.int p) (.int k)=(p == k):=rfl
  rw[e]
  by_cases h:p=k
  ·subst h;simp
  ·rw[beq_eq_false_iff_ne.mpr h,BV]
   apply decide_eq_decide.mpr
   rw[vn]
   exact ⟨.inr,λx=>x.elim (λy=>absurd y.symm h) id⟩
theorem pairedT {F:V->V->Prop}:∀{l m:List (Addr×List Int)},l.map (·.2)=m.map (·.2)->(∀u∈l,∀v∈m,u.2=v.2->F (.ref u.1) (.ref v.1))->Paired F (l.map λu=>V.ref u.1) (m.map λu=>V.ref u.1)
 | [],[],_,_ =>.nil
 | [],v :: m,e,_=>by cases e
 | u :: l,[],e,_=>by cases e
 | u :: l,v :: m,e,h=>by
  rw[vg,vg] at e
  obtain ⟨e1,e2⟩:=List.cons.inj e
  exact .cons (h u uZ v uZ e1) (pairedT e2 λa ha b hb z=>h a (u6 _ ha) b (u6 _ hb) z)
def Pt (n:Nat)(H:Hp)(p:Addr):Prop:=∃xs:List Int,xs.length=n/\H p=some (.lst (xs.map V.int))
structure Bu (n:Nat)(p:Addr)(H H':Hp):Prop where
 pot:Pt n H' p
 st:∀q o,q≠p->H q=some o->H' q=some o
theorem Pt.same {n:Nat}{p:Addr}{H H1:Hp}(a:Pt n H p)(s:aD H H1):Pt n H1 p:=by obtain ⟨xs,l,e⟩:=a;exact ⟨xs,l,s _ _ e⟩
theorem Pt.ne {n:Nat}{p b:Addr}{H:Hp}(a:Pt n H p)(h:H b=none):b≠p:=by
 obtain ⟨xs,_,e⟩:=a
 exact w6 (aq e h)
theorem Pt.neT {n:Nat}{p b:Addr}{H:Hp}{ys:List V}(a:Pt n H p)(h:H b=some (.tup ys)):b≠p:=by
 obtain ⟨xs,_,e⟩:=a
 exact nC h e (by intro z;cases z)
theorem Bu.refl {n:Nat}{p:Addr}{H:Hp}(h:Pt n H p):Bu n p H H:=⟨h,λ_ _ _ z=>z⟩
theorem Bu.trans {n:Nat}{p:Addr}{H H1 H2:Hp}(a:Bu n p H H1)(b:Bu n p H1 H2):Bu n p H H2:=⟨b.pot,λq o m z=>b.st q o m (a.st q o m z)⟩
theorem Bu.same {n:Nat}{p:Addr}{H H1 H2:Hp}(a:Bu n p H H1)(b:aD H1 H2):Bu n p H H2:=⟨a.pot.same b,λq o m z=>b _ _ (a.st q o m z)⟩
theorem Bu.put {n:Nat}{p:Addr}{H H1:Hp}(a:Bu n p H H1){ys:List Int}(l:ys.length=n):Bu n p H (upd H1 p (.lst (ys.map V.int))):=⟨⟨ys,l,ag⟩,λq o m z=>by rw[ak m];exact a.st q o m z⟩
theorem Bu.cg {n:Nat}{p l:Addr}{H H1:Hp}(a:Bu n p H H1)(hl:H l=none)(np:l≠p)(o:HO):Bu n p H (upd H1 l o):=⟨by obtain ⟨xs,z,e⟩:=a.pot;exact ⟨xs,z,by rw[ak np.symm];exact e⟩,λq u m z=>by rw[ak (aq z hl)];exact a.st q u m z⟩
theorem Bu.tup {n:Nat}{p q:Addr}{H H1:Hp}(a:Bu n p H H1)(h:Pt n H p){xs:List V}(t:H q=some (.tup xs)):H1 q=some (.tup xs):=a.st q _ (h.neT t) t
theorem Bu.fresh {n:Nat}{p:Addr}{H H':Hp}{o:HO}(h:H p=none)(b:Bu n p (upd H p o) H'):aD H H':=λq u e=>by
 have m:q≠p:=aq e h
 refine b.st q u m ?_
 rw[ak m]
 exact e
def Tus (H:Hp)(ts:List (Addr×List Int)):Prop:=∀u∈ts,H u.1=some (.tup (u.2.map V.int))
theorem Tus.same {H H':Hp}{ts:List (Addr×List Int)}(h:Tus H ts)(s:aD H H'):Tus H' ts:=λu hu=>s _ _ (h u hu)
theorem Tus.bu {n:Nat}{p:Addr}{H H':Hp}{ts:List (Addr×List Int)}(h:Tus H ts)(b:Bu n p H H')(hp:Pt n H p):Tus H' ts:=λu hu=>b.tup hp (h u hu)
theorem Tus.snoc {H:Hp}{ts:List (Addr×List Int)}(h:Tus H ts){u:Addr×List Int}(e:H u.1=some (.tup (u.2.map V.int))):Tus H (ts++[u]):=λv hv=>by
 rcases uC.mp hv with z | z
 ·exact h v z
 ·rw[uw] at z;subst z;exact e
structure Mkg (n:Nat)(p la:Addr)(H H':Hp)(us:List (Addr×List Int)):Prop where
 bu:Bu n p H H'
 at':H' la=some (.lst (us.map λu =>.ref u.1))
 tu:Tus H' us
 two:∀u∈us,∃x y,u.2=[x,y]
theorem Mkg.bu' {n:Nat}{p la:Addr}{H H1 H2:Hp}{us:List (Addr×List Int)}(m:Mkg n p la H H1 us)(np:la≠p)(b:Bu n p H1 H2):Mkg n p la H H2 us:=⟨m.bu.trans b,b.st _ _ np m.at',m.tu.bu b m.bu.pot,m.two⟩
theorem Mkg.add {n:Nat}{p la t:Addr}{H H1:Hp}{us:List (Addr×List Int)}(m:Mkg n p la H H1 us)(hla:H la=none)(np:la≠p)(ht:H1 t=none)(x y:Int):Mkg n p la H (upd (upd H1 t (.tup [.int x,.int y])) la (.lst ((us.map λu=>V.ref u.1)++[.ref t]))) (us++[(t,[x,y])]):=by
 have ntl:t≠la:=w6 (aq m.at' ht)
 refine ⟨(m.bu.same (af ht _)).cg hla np _,?_,?_,?_⟩
 ·rw[ag,uJ]
  rfl
 ·refine Tus.snoc (λu hu =>?_) ?_
  ·rw[ak (nC (m.tu u hu) m.at' (by intro z;cases z)),ak (aq (m.tu u hu) ht)]
   exact m.tu u hu
  ·show upd (upd H1 t _) la _ t=_
   rw[ak ntl]
   exact ag
 ·intro u hu
  rcases uC.mp hu with z | z
  ·exact m.two u z
  ·rw[uw] at z;subst z;exact ⟨x,y,rfl⟩
variable  {X:Cx}
open PySem PySem.Spec PyProof.Rows
section
variable  {X:Cx}
theorem oN {k:Int}:∀{ns:List Int} {m:Nat} (h:m<ns.length),m<ns.idxOf k->ns[m]≠k
 | [],m,h,_=>absurd h (Nat.not_lt_zero _)
 | n :: ns,0,_,l=>by
  intro z
  have e:(n :: ns)[0]=n:=rfl
  rw[e] at z
  subst z
  simp at l
 | n :: ns,m+1,h,l=>by
  have h':m<ns.length:=Nat.lt_of_succ_lt_succ h
  show ns[m]≠k
  refine oN h' ?_
  by_cases e:n=k
  ·subst e;simp at l
  ·rw[List.idxOf_cons,show (n == k)=false by simpa using e] at l
   simp at l
   exact l
theorem dQ:MtR X "list.index" (λx vs H Q=>∃(p:Addr) (ns:List Int) (k:Int),x = .ref p/\vs=[.int k]/\H p=some (.lst (ns.map V.int))/\k∈ns/\ns.length<=100000/\Q (.int (ns.idxOf k:Nat)) H):=by
 intro pins s σ H x vs v us Q I rx rv h
 obtain ⟨p,ns,k,rfl,rfl,hp,hk,hz,q⟩:=h
 cases rx
 obtain ⟨u,rfl,⟨t,rfl⟩⟩:=vals1 rv
 obtain ⟨z,its,n,r,e1⟩:=(show bp X.prog X.w H s.heap p (.lst _) from I.hok p _ hp)
 have hi:xW its ns:=intsAre_of r
 have hlen:=hi.length
 have hj:ns.idxOf k<ns.length:=List.idxOf_lt_length_iff.mpr hk
 refine zx wO ⟨_,e1,rfl⟩ PySem.F.entry_list_index (PySem.F.args_list_index_2 _ _) (SeqAt.list_indexAt p its.toArray n none #[] (.int k t) (isInt k) (ns.idxOf k) (by simpa [hlen] using hj) (by lia) ?_ ?_) ⟨e1,λy hy=>iV hi y hy,⟨.int _,H,I.tok _,⟨_,rfl⟩,q⟩⟩
 ·show isInt k its[ns.idxOf k]=true
  rw[BW k hi _ (by lia) hj];simpa using List.getElem_idxOf hj
 ·intro j hjs hlt
  show isInt k its[j]=false
  rw[BW k hi j (by simpa using hjs) (by lia)]
  simpa using oN (by lia) hlt
end
open PySem PySem.Spec PyProof.Rows
section
variable  {X:Cx}
theorem nc:sW X (λo i H Q=>∃(p:Addr) (xs:List V) (k:Nat) (v:V),o = .ref p/\i = .int k/\SqL X.K H p xs/\xs[k]? = some v/\Q v H):=by
 intro pins s σ H o i ov iv Q I ro ri h
 obtain ⟨p,xs,k,v,rfl,rfl,hq,he,q⟩:=h
 cases (show ov=uW p from ro)
 obtain ⟨t,rfl⟩:=(show ∃t,iv=xZ k t from ri)
 obtain ⟨its,r,pl,hz⟩:=I.list hq
 obtain ⟨w,ew,rw'⟩:=r.get he
 have hk:k<xs.length:=(um.mp he).1
 have hn:=eB
 exact wpAny_getItem_list pl.isList (by lia) (by lia) (by simpa using ew) ⟨v,H,I,rw',q⟩
theorem ng (hc:X.calm=true):bO X (.builtin "min") (λxs H Q=>∃(a:Addr) (ns:List Int),xs=[.ref a]/\SqL X.K H a (ns.map V.int)/\ns≠[]/\∀M:Int,M∈ns->(∀b∈ns,M<=b)->Q (.int M) H):=by
 intro pins s σ H xs us Q I r h
 obtain ⟨a,ns,rfl,hS,hne,q⟩:=h
 obtain ⟨u,rfl,ru⟩:=vals1 r
 cases (show u=uW a from ru)
 obtain ⟨its,r1,p1,_⟩:=I.list hS
 obtain ⟨ps,e2,e3⟩:=fU (intsAre_of r1)
 have ei:its.toArray=intItems ps.toArray:=by rw[e2];simp[intItems]
 have hl:s.heap.IsList a (intItems ps.toArray):=by rw[<- ei];exact p1.isList
 have hz:ps.toArray.size=ns.length:=by rw[uu, <- e3,ue]
 have hp:0<ns.length:=List.length_pos_iff.mpr hne
 have ht:ps.toArray.toList.map (·.1)=ns:=e3
 refine min_intList (I.ok.hd hc) hl (by lia) λv h' tk hv k =>?_
 rw[hz] at hv
 obtain ⟨t,rfl⟩:=intItems_at hv
 obtain ⟨h1,h2⟩:=argBest_lt (numAt ps.toArray) (ns.length-1)
 refine ⟨.int _,H,I.kept k,⟨_,rfl⟩,q _ ?_ λb hb =>?_⟩
 ·rw[BX,ht];exact sq (by lia)
 ·obtain ⟨j,hj,rfl⟩:=sr hb
  have:=h2 j (by lia)
  rw[BX,BX,ht] at this
  rw[BX,ht]
  exact this
def EqS (K:uh)(H:Hp):Nat->V->V->Prop
 | 0,x,y=>(∃i,x = .int i/\y = .int i)\/(∃i,x = .str i/\y = .str i)\/∃a,x = .ref a/\y = .ref a
 | n+1,x,y=>(∃i,x = .int i/\y = .int i)\/(∃i,x = .str i/\y = .str i)\/(∃a,x = .ref a/\y = .ref a)\/∃a b xs ys,x = .ref a/\y = .ref b/\((SqT K H a xs/\SqT K H b ys)\/(SqL K H a xs/\SqL K H b ys))/\Paired (EqS K H n) xs ys
theorem fE {K:uh}{H:Hp}{n:Nat}{s:uj}{A:vz}{xs ys:List V}{us vs:List ug}(p:Paired (EqS K H n) xs ys)(r1:Vals xs us)(r2:Vals ys vs)
  (ih:∀x y u v,EqS K H n x y->RelV x u->RelV y v->yi A s u v true):∀j (h1:j<us.toArray.size) (h2:j<vs.toArray.size),yi A s us.toArray[j] vs.toArray[j] true:=λj h1 h2=>by
 rw[uu] at h1 h2
 have l1:=r1.length
 have l2:=r2.length
 have e1:xs[j]? = some xs[j]:=ux (by omega)
 have e2:ys[j]? = some ys[j]:=ux (by omega)
 obtain ⟨u,g1,q1⟩:=r1.get e1
 obtain ⟨v,g2,q2⟩:=r2.get e2
 have f1:us.toArray[j]=u:=by simp[um] at g1;obtain ⟨_,g⟩:=g1;simpa using g
 have f2:vs.toArray[j]=v:=by simp[um] at g2;obtain ⟨_,g⟩:=g2;simpa using g
 rw[f1,f2]
 exact ih _ _ u v (iI p e1 e2) q1 q2
theorem eX {A:vz}{s:uj}{x y:V}{u v:ug}(h:(∃i,x = .int i/\y = .int i)\/(∃i,x = .str i/\y = .str i)\/∃a,x = .ref a/\y = .ref a)(ru:RelV x u)(rv:RelV y v):yi A s u v true:=by
 rcases h with ⟨i,rfl,rfl⟩ | ⟨i,rfl,rfl⟩ | ⟨a,rfl,rfl⟩
 ·obtain ⟨t,rfl⟩:=(show ∃t,u=xZ i t from ru)
  obtain ⟨t',rfl⟩:=(show ∃t,v=xZ i t from rv)
  have:=ym (A:=A) (s:=s) i t i t'
  rw[beq_self_eq_true] at this
  exact this
 ·obtain ⟨t,rfl⟩:=(show ∃t,u=Value.str i t from ru)
  obtain ⟨t',rfl⟩:=(show ∃t,v=Value.str i t from rv)
  have:=AA (A:=A) (s:=s) i t i t'
  rw[show (i == i)=true by simp] at this
  exact this
 ·cases (show u=uW a from ru)
  cases (show v=uW a from rv)
  exact zY _
theorem oO {pins:List (Addr×Obj)}{σ:St}{H:Hp}{s:uj}(I:Inv X pins σ H s):∀(n:Nat) (A:vz) (x y:V) (u v:ug),A.units+n<cLine->EqS X.K H n x y->RelV x u->RelV y v->yi A s u v true
 | 0,A,x,y,u,v,_,h,ru,rv=>eX h ru rv
 | n+1,A,x,y,u,v,hA,h,ru,rv=>by
  rcases h with h | h | h | ⟨a,b,xs,ys,rfl,rfl,hs,p⟩
  ·exact eX (.inl h) ru rv
  ·exact eX (.inr (.inl h)) ru rv
  ·exact eX (.inr (.inr h)) ru rv
  ·cases (show u=uW a from ru)
   cases (show v=uW b from rv)
   by_cases hab:a=b
   ·subst hab;exact zY _
   refine SeqAt.EqAt.of_refs hab ?_
   have ih:∀x y u v,EqS X.K H n x y->RelV x u->RelV y v->yi A.in1 s u v true:=λx y u v h1 h2 h3=>oO I n A.in1 x y u v (by show A.units+1+n<cLine;lia) h1 h2 h3
   have pl:=zz p
   rcases hs with ⟨h1,h2⟩ | ⟨h1,h2⟩
   ·obtain ⟨its,r1,p1,_⟩:=I.tuple h1
    obtain ⟨its2,r2,p2,_⟩:=I.tuple h2
    have q:=SeqAt.RcAt.tuples (e:=λ_=>true) (show s.heap.IsTuple a its.toArray from p1) (show s.heap.IsTuple b its2.toArray from p2) (by lia) (fE p r1 r2 ih)
    have ez:its.toArray.size=its2.toArray.size:=by rw[uu,uu, <- r1.length, <- r2.length,pl]
    rw[all_true,ez,beq_self_eq_true] at q
    exact q
   ·obtain ⟨its,r1,p1,_⟩:=I.list h1
    obtain ⟨its2,r2,p2,_⟩:=I.list h2
    have q:=SeqAt.RcAt.lists (e:=λ_=>true) p1.isList p2.isList (by rw[uu,uu, <- r1.length, <- r2.length,pl]) (by lia) (fE p r1 r2 ih)
    rw[all_true] at q
    exact q
theorem qh {k:Nat}(hr:bT k X.A):OpR X (wq .NotEq) (λx y H Q=>∃a b xs ys,x = .ref a/\y = .ref b/\SqT X.K H a xs/\SqT X.K H b ys/\Paired (EqS X.K H 20) xs ys/\Q (.bl false) H):=by
 intro pins s σ H x y v u Q I rx ry h
 obtain ⟨a,b,xs,ys,rfl,rfl,h1,h2,p,q⟩:=h
 cases (show v=uW a from rx)
 cases (show u=uW b from ry)
 obtain ⟨its,r1,p1,_⟩:=I.tuple h1
 obtain ⟨its2,r2,p2,_⟩:=I.tuple h2
 have l1:=r1.length
 have l2:=r2.length
 have pl:=zz p
 have hu:=hr.un
 have hu1:X.A.units<cLine:=by lia
 have R:=SeqAt.RcNeAt.tuples (A:=X.A) (e:=λ_=>true) (show s.heap.IsTuple a its.toArray from p1) (show s.heap.IsTuple b its2.toArray from p2) hu1 (fE p r1 r2 λx y u v h1 h2 h3=>oO I 20 _ x y u v (by show X.A.units+1+_<cLine;lia) h1 h2 h3)
 rw[uu,uu, <- l1, <- l2,pl,Bd,beq_self_eq_true,all_true] at R
 exact R _ _ _ _ ⟨.bl false,H,I,rfl,q⟩
end
end L2
namespace L2.RvT
open PySem PyProof.Rows
open Sem (wp)
section
variable  {prog:uM}{w:vt}{A:vz}{E:ug->uj->Prop}{s:uj}
end
section
variable  {prog:uM}{w:vt}{A:vz}{E:ug->uj->Prop}{s:uj}
end
end L2.RvT
namespace L2
open PySem PySem.Spec PyProof.Rows
section
variable  {X:Cx}
theorem qi {k:Nat}(hr:bT k X.A):OpR X (wq .Eq) (λx y H Q=>∃(a b:Addr) (ns ms:List Int),x = .ref a/\y = .ref b/\SqL X.K H a (ns.map V.int)/\SqL X.K H b (ms.map V.int)/\Q (.bl (decide (ns=ms))) H):=by
 intro pins s σ H x y v u Q I rx ry h
 obtain ⟨a,b,ns,ms,rfl,rfl,h1,h2,q⟩:=h
 cases (show v=uW a from rx)
 cases (show u=uW b from ry)
 obtain ⟨its,r1,⟨⟨c1,d1,da1,sl1⟩,n1,e1,k1,_,k3⟩,_⟩:=I.list h1
 obtain ⟨its2,r2,⟨⟨c2,d2,da2,sl2⟩,n2,e2,g1,_,g3⟩,_⟩:=I.list h2
 simp only at k1 k3 g1 g3
 subst k1 k3 g1 g3
 have l1:=r1.length
 have l2:=r2.length
 rw[ue] at l1 l2
 have hu:=hr.un
 have hu1:X.A.units<cLine:=by lia
 by_cases hl:ns.length=ms.length
 ·refine xD (op :=.Eq) ⟨_,e1,rfl⟩ ⟨_,e2,rfl⟩ F.slot_list_eq Bx (Bo _ _) (SeqAt.list_eqAt a b its.toArray its2.toArray n1 n2 d1 d2 sl1 sl2 (by rw[uu,uu];lia) (qd ns ms)) ⟨e1,e2,?_,?_⟩ hu1
  ·intro j h1 h2
   obtain ⟨t1,g1⟩:=intAt r1 h1
   obtain ⟨t2,g2⟩:=intAt r2 h2
   rw[g1,g2]
   exact ym _ t1 _ t2
  ·have ez:its.toArray.size=ns.length:=by rw[uu];lia
   rw[ez,j9 hl]
   exact ⟨(λz=>nomatch z),⟨.bl _,H,I,rfl,q⟩⟩
 ·have ne:ns≠ms:=λz=>hl (by rw[z])
  rw[decide_eq_false ne] at q
  refine xD (op :=.Eq) ⟨_,e1,rfl⟩ ⟨_,e2,rfl⟩ F.slot_list_eq Bx (Bo _ _) (SeqAt.list_eq_lengthsAt a b its.toArray its2.toArray n1 n2 d1 d2 sl1 sl2 (by simp;lia)) ⟨e1,e2,?_⟩ hu1
  exact ⟨(λz=>nomatch z),⟨.bl false,H,I,rfl,q⟩⟩
end
open PySem PySem.Spec PyProof.Rows
section
variable  {X:Cx}
end
theorem ni {K:uh}{p:Addr}{ts:List (Addr×V×V)}{k l:Nat}{tc:TT}{te:TE}{τ:St}{H:Hp}{Q:VK}(Pv:Nat->List V->Hp->Prop)(hkl:k≠l)(h0:Pv 0 [] H)(hz:ts.length<=uL)
  (hl:∀i ys H,i<=ts.length->Pv i ys H->SqT K H p (ts.map λt =>.ref t.1)/\∀t∈ts,SqT K H t.1 [t.2.1,t.2.2])
  (hs:∀i t ys H,ts[i]? = some t->ys.length<=i->Pv i ys H->qJ k l tc te τ Pv i t.2.1 t.2.2 ys H)
  (hd:∀ys H,ys.length<=ts.length->Pv ts.length ys H->∀r,H r=none->Q (.ref r) (upd H r (.lst ys))):iE (Itt K p) (oa K k l) tc te τ Q H:=by
 refine ⟨λi m σ ys H=>m=ts.length-i/\i<=ts.length/\(∀a b,(σ.set k (some a)).set l (some b)=(τ.set k (some a)).set l (some b))/\ys.length<=i/\Pv i ys H,⟨ts.length,by simp,vv _,λ_ _=>rfl,ur _,h0⟩,?_⟩
 rintro i m σ ys H ⟨rfl,hi,hτ,hy,pv⟩
 obtain ⟨q,qt⟩:=hl i ys H hi pv
 have ln:(ts.map λt:Addr×V×V=>V.ref t.1).length=ts.length:=ue _
 by_cases hlt:i<ts.length
 ·have et:ts[i]? = some ts[i]:=ux hlt
  have em:(ts.map λt:Addr×V×V=>V.ref t.1)[i]? = some (.ref ts[i].1):=by rw[uF,et];rfl
  refine .inr ⟨⟨_,_,q,em⟩,λx H' y =>?_⟩
  obtain ⟨e,y⟩:=y
  subst e
  have ex:=y _ q
  rw[em] at ex
  cases ex
  have st:=qt ts[i] (yy hlt)
  refine ⟨ts[i].1,_,rfl,st,rfl,_,_,rfl,_,_,rfl,rfl,?_⟩
  rw[hτ]
  have hσ:∀a b,((((τ.set k (some ts[i].2.1)).set l (some ts[i].2.2)).set k (some a)).set l (some b))=(τ.set k (some a)).set l (some b):=λa b=>by
   rw[BS _ _ (w6 hkl),yf,yf]
  refine hs i ts[i] ys _ et hy pv _ _ (λy4 H4 p4=>⟨by lia,ts.length-(i+1),by lia,rfl,hlt,hσ,by rw[uv,vF];lia,p4⟩) λH3 p3=>⟨ts.length-(i+1),by lia,rfl,hlt,hσ,by lia,p3⟩
 ·have e:i=ts.length:=by lia
  subst e
  exact .inl ⟨⟨_,q,by rw[ln];exact ur _⟩,by lia,hd ys H hy pv⟩
open PySem PySem.Spec PyProof.Rows
section
variable  {X:Cx}
theorem gK (hh:X.A.handled=none):bO X (.type "list") (λxs H Q=>∃(a:Addr) (n:Nat),xs=[.ref a]/\H a=some (.rng 0 n)/\n<=1000/\∀l,H l=none->Q (.ref l) (upd H l (.lst ((vC n).map λi=>V.int (i:Nat))))):=by
 intro pins s σ H xs us Q I r h
 obtain ⟨a,n,rfl,ha,hn,q⟩:=h
 obtain ⟨u,rfl,ru⟩:=vals1 r
 cases (show u=uW a from ru)
 obtain ⟨t,u,v,e⟩:=(show bp X.prog X.w H s.heap a (.rng 0 n) from I.hok a _ ha)
 have rs:Builtin.Range.rangeSize 0 (n:Int) 1=(n:Int):=by
  rw[rangeSize_one]
  split <;> lia
 have n24:n<=2 ^ 24:=by lia
 refine call_list_range hh e (small_one (by lia) (by lia) (by lia) (by lia)) rs n24 λh' tk acc' c' k e' it =>?_
 have hv:∀(i:Nat) (x:ug),acc'.toList[i]? = some x->∃t,x=xZ i t:=λi x hx=>by
  rw[uz] at hx
  obtain ⟨t',e⟩:=it.2 i x hx
  exact ⟨t',by rw[e];simp⟩
 have rv:=k8 hv
 rw[uo,it.1] at rv
 exact ⟨.ref s.heap.objs.size,_,I.laid (o :=.lst ((vC n).map λi=>V.int (i:Nat))) k (ur _) ⟨by rw[ue,xP];exact small hn,acc'.toList,c',rv,by simpa using e'⟩,rfl,q _ (I.hok.fresh (ur _))⟩
end
open PySem PySem.Spec PyProof.Rows
section
variable  {X:Cx}
theorem gL (hu:X.A.units+8<cLine):OpR X (wq .NotIn) (λx y H Q=>∃(p b:Addr) (ts:List (Addr×List Int)) (m:List Int),x = .ref b/\y = .ref p/\H p=some (.tup (ts.map λt =>.ref t.1))/\(∀t∈ts,H t.1=some (.tup (t.2.map V.int)))/\H b=some (.tup (m.map V.int))/\Q (.bl (!decide (m∈ts.map (·.2)))) H):=by
 intro pins s σ H x y v u Q I rx ry h
 obtain ⟨p,b,ts,m,rfl,rfl,hp,ht,hb,q⟩:=h
 cases rx
 cases ry
 have ht':∀t∈ts,SqT X.K H t.1 (t.2.map V.int):=λt hm=>SqT.of (ht t hm)
 obtain ⟨its,r,pl,hz⟩:=I.tuple (SqT.of (K:=X.K) hp)
 have ei:=cy r
 refine Am (bP ts m) pl (λy hy =>?_) ⟨.bl _,H,I,rfl,?_⟩
 ·have hy':y∈its:=by simpa using hy
  rw[ei] at hy'
  obtain ⟨t,hm,rfl⟩:=uH.mp hy'
  rw[bN I ht' hm]
  exact I.eqT (by show X.A.units+1<cLine;lia) (ht' t hm) (SqT.of hb)
 ·rw[show its.toArray.any (bP ts m)=its.any (bP ts m) by simp,ei,gc I ht' ts (λt h=>h)]
  exact q
end
open PySem PySem.Spec PyProof.Rows
section
variable  {X:Cx}
theorem boolsOf:∀{bs:List Bool} {its:List ug},Vals (bs.map V.bl) its->its=bs.map Value.bool
 | [],_,.nil=>rfl
 | b :: bs,_,.cons r t=>by rw[boolsOf t];cases (show _=Value.bool b from r);rfl
theorem nj:MtR X "list.count" (λx vs H Q=>∃(p:Addr) (bs:List Bool) (k:Bool),x = .ref p/\vs=[.bl k]/\H p=some (.lst (bs.map V.bl))/\Q (.int (bs.count k:Nat)) H):=by
 intro pins s σ H x vs v us Q I rx rv h
 obtain ⟨p,bs,k,rfl,rfl,hp,q⟩:=h
 cases rx
 obtain ⟨u,rfl,ru⟩:=vals1 rv
 cases (show u=Value.bool k from ru)
 obtain ⟨z,its,n,r,e1⟩:=(show bp X.prog X.w H s.heap p (.lst _) from I.hok p _ hp)
 have ei:=boolsOf r
 subst ei
 refine zx zE ⟨_,e1,rfl⟩ PySem.F.entry_list_count (PySem.F.args_list_count_2 _ _) (SeqAt.list_countAt p _ n _ _ (.bool k) (isBoolOf k)) ⟨e1,λy hy =>?_,?_⟩
 ·have hy':y∈bs.map Value.bool:=by simpa using hy
  obtain ⟨b,_,rfl⟩:=uH.mp hy'
  exact Ad b k
 ·have:(bs.map Value.bool).toArray.toList.countP (isBoolOf k)=bs.count k:=by
   rw[show (bs.map Value.bool).toArray.toList=bs.map Value.bool from rfl,Bz]
   rfl
  rw[this]
  exact ⟨.int _,H,I.tok _,⟨_,rfl⟩,q⟩
def tT:V->List V->Hp->VK->Prop:=λx vs H Q=>∃(l:Addr) (ns:List Int) (k:Int),x = .ref l/\vs=[.int k]/\H l=some (.lst (ns.map V.int))/\k∈ns/\Q .non (upd H l (.lst ((ns.erase k).map V.int)))
theorem gM:∀{xs:List V} {its:List ug} (j:Nat),Vals xs its->Vals (xs.eraseIdx j) (its.eraseIdx j)
 | [],_,_,.nil =>.nil
 | _ :: _,_,0,.cons _ t=>t
 | _ :: _,_,j+1,.cons r t =>.cons r (gM j t)
theorem gN:∀(ns:List Int) (j:Nat),(ns.eraseIdx j).map V.int=(ns.map V.int).eraseIdx j
 | [],_=>rfl
 | _ :: _,0=>rfl
 | n :: ns,j+1=>by show V.int n :: _=V.int n :: _;rw[gN ns j]
theorem gO:MtM X "list.remove" tT:=by
 intro pins s σ H x vs v us Q I rx rv h
 obtain ⟨l,ns,k,rfl,rfl,hH,hm,q⟩:=h
 cases rx
 obtain ⟨ub,rfl,⟨tk,rfl⟩⟩:=vals1 rv
 obtain ⟨z,its,n,r,hl,e⟩:=I.pG hH
 have hi:xW its ns:=intsAre_of r
 obtain ⟨j,j1,j2,j3⟩:=eE hm
 have li:its.length=ns.length:=by have:=r.length;rw[ue] at this;exact this.symm
 have lt:j<ns.length:=(um.mp j1).1
 refine zx xh ⟨_,e,rfl⟩ zd (yS _ _) (Rem.l6 l its.toArray n (.int k tk) (isInt k) j (by rw[uu];lia) ?_ ?_ (by rw[uu,li];rw[ue] at z;lia)) ⟨⟨e,?_⟩,?_⟩
 ·have:=BW k hi j (by lia) lt
  have e2:=(um.mp j1).2
  rw[e2] at this
  simpa using this
 ·intro i hi' hij
  have h1:i<its.length:=by simpa using hi'
  have:=BW k hi i h1 (by lia)
  have ne:=j2 i hij ns[i] (ux (by lia))
  rw[beq_false_of_ne ne] at this
  simpa using this
 ·exact λy hy=>iV hi y hy
 ·have le:(ns.erase k).length<=ns.length:=List.length_erase_le
  refine ⟨.non,_,I.pF (its':=its.eraseIdx j) hH e ?_ (by rw[j3,show (ns.eraseIdx j).map V.int=(ns.map V.int).eraseIdx j from gN ns j];exact gM j r) (by rw[ue] at z ⊢;lia),rfl,q⟩
  apply x9.mp
  unfold Array.eraseIdxIfInBounds
  rw[dif_pos (by rw[uu];lia)]
  simp
end
open PySem PySem.Spec PySem.W PyProof.Rows
theorem bp.ex {P:uM}{w:vt}{H:Hp}{h:Heap}{a:Addr}{o:HO}(x:bp P w H h a o):∃u,h.get? a=some u:=by
 cases o with
 | lst xs=>obtain ⟨_,_,_,_,e⟩:=x;exact ⟨_,e⟩
 | tup xs=>obtain ⟨_,_,_,_,e,_⟩:=x;exact ⟨_,e⟩
 | dK kvs=>obtain ⟨_,_,_,_,o,_,_,e,_⟩:=x;exact ⟨_,e⟩
 | dT kvs=>obtain ⟨_,_,_,_,o,_,_,e,_⟩:=x;exact ⟨_,e⟩
 | set S n=>obtain ⟨o,_,_,_,e,_⟩:=x;exact ⟨_,e⟩
 | ins C dx fs=>obtain ⟨_,_,_,e,_⟩:=x;exact ⟨_,e⟩
 | own y=>obtain ⟨_,e⟩:=x;exact ⟨_,e⟩
 | xd fs=>obtain ⟨_,⟨_,_,_,e,_⟩,_⟩:=x;exact ⟨_,e⟩
 | rng lo hi=>obtain ⟨_,_,_,e⟩:=x;exact ⟨_,e⟩
 | frz ob u=>obtain ⟨e,_⟩:=x;exact ⟨_,e⟩
 | tbl ps=>exact ⟨_,show h.get? a=some _ from x⟩
 | met f y=>exact ⟨_,show h.get? a=some _ from x⟩
 | ext φ=>obtain ⟨_,⟨_,e⟩,_⟩:=x;exact ⟨_,e⟩
theorem HOk.noth {P:uM}{w:vt}{H:Hp}{h:Heap}{a:Addr}(x:HOk P w H h)(e:h.get? a=none):H a=none:=by
 cases q:H a with
 | none=>rfl
 | some o =>
  obtain ⟨u,z⟩:=(x a o q).ex
  rw[e] at z;cases z
theorem HOk.hide {P:uM}{w:vt}{H:Hp}{h:Heap}{l:List Addr}(x:HOk P w H h)(n:∀b∈l,H b=none):HOk P w H (hideAll h l):=λa o e =>
 (x a o e).stay (λb u hb q=>zI _ q λm=>by
  have z:=n b m
  rcases hb with rfl | hb
  ·rw[e] at z;cases z
  ·rw[hb] at z;cases z) (λ_ q=>q) λ_ _ q=>q
structure Fly (P:uM)(w:vt)(outer:List Env)(H H':Hp)(h:Heap)(B:Heap)(ea:Addr)(cls a0:ug)(h':Heap):Prop where
 fl:Heap.FlyingW B outer ea cls a0 h'
 un:Un (frs outer) [] H H' h h'
 ok:HOk P w H' B
 cov:∀b o,h.get? b=some o->H b=none->b∉frs outer->B.get? b=some o
 all:∀b o,h.get? b=some o->b∉frs outer->∃u,B.get? b=some u
section
variable  {P:uM}{w:vt}{outer:List Env}{H H':Hp}{h B h' h2:Heap}{ea:Addr}{cls a0:ug}
theorem Fly.no (F:Fly P w outer H H' h B ea cls a0 h'):H' ea=none:=F.ok.noth F.fl.2.1
theorem Fly.hok (F:Fly P w outer H H' h B ea cls a0 h'):HOk P w H' h':=F.ok.kept F.fl.1
theorem Fly.new (F:Fly P w outer H H' h B ea cls a0 h'):h.get? ea=none:=by
 cases q:h.get? ea with
 | none=>rfl
 | some o =>
  by_cases m:ea∈frs outer
  ·obtain ⟨_,o',ho',hd⟩:=F.fl.2.2.1.mem m
   obtain ⟨oe,vs,he,_,hde,_⟩:=F.fl.first
   rw[he] at ho';cases ho'
   exact absurd hde (hd vs)
  ·obtain ⟨u,z⟩:=F.all ea o q m
   rw[F.fl.2.1] at z;cases z
theorem Fly.step {l:List Env}(F:Fly P w outer H H' h B ea cls a0 h')(f2:Heap.FlyingW B l ea cls a0 h2)(hs:∀b∈frs outer,∀o,h'.get? b=some o->∃sl,h2.get? b=some { o with slots:=sl }):Un (frs outer) [] H H' h h2 where
 keep:=λb o q n m _=>f2.1 _ _ (F.cov b o q n m)
 slot:=λb o q n m x=>by
  obtain ⟨sl,e⟩:=F.un.slot b o q n m x
  obtain ⟨sl',e'⟩:=hs b m _ e
  exact ⟨sl',e'⟩
 free:=F.un.free
 there:=λb o q x=>by
  by_cases m:b∈frs outer
  ·obtain ⟨o',e⟩:=F.un.there b o q x
   obtain ⟨sl',e'⟩:=hs b m _ e
   exact ⟨_,e'⟩
  ·obtain ⟨u,e⟩:=F.all b o q m
   exact ⟨u,f2.1 _ _ e⟩
 tups:=F.un.tups
 frzs:=F.un.frzs
 tbls:=F.un.tbls
theorem Fly.slots (F:Fly P w outer H H' h B ea cls a0 h')(k:h'.UpToSlots h2):∀b∈frs outer,∀o,h'.get? b=some o->∃sl,h2.get? b=some { o with slots:=sl }:=λb m o e=>by
 obtain ⟨_,o',ho',hd⟩:=F.fl.2.2.1.mem m
 rw[e] at ho';cases ho'
 exact k b o e hd
theorem Fly.on (F:Fly P w outer H H' h B ea cls a0 h')(f2:Heap.FlyingW B outer ea cls a0 h2)(k:h'.UpToSlots h2):Fly P w outer H H' h B ea cls a0 h2 :=
 ⟨f2,F.step f2 (F.slots k),F.ok,F.cov,F.all⟩
end
def CX1 (P:uM)(w:vt):CXT:=λouter H s E e s'=>∃ea cls a0 B H',e = .ref ea/\s'.os=s.os/\AllBare s'.gens/\Fly P w outer H H' s.heap B ea cls a0 s'.heap/\E cls none H'
section
variable  {X:Cx}{pins:List (Addr×Obj)}{σ:St}{H H':Hp}{s:uj}{B h':Heap}{ea:Addr}{cls a0:ug}
theorem Inv.land {s':uj}(I:Inv X pins σ H s)(os:s'.os=s.os)(g:AllBare s'.gens)(F:Fly X.prog X.w X.stack H H' s.heap B ea cls a0 s'.heap):Inv X pins σ H' s' :=
 I.qG os F.un F.hok g (λb z=>absurd z (by simp))
theorem Fly.out (I:Inv X pins σ H s)(hst:X.stack=X.env :: X.outer)(hfr:X.env.frame=some X.env.locals)(hex:X.ex=[])(F:Fly X.prog X.w X.stack H H' s.heap B ea cls a0 h')(f2:Heap.FlyingW B X.outer ea cls a0 h2)(k:h'.UpToSlots h2) :
  Fly X.prog X.w X.outer X.H₀ H' X.s₀.heap B ea cls a0 h2:=by
 have nL:∀b o,X.s₀.heap.get? b=some o->b≠X.env.locals:=λb o q z=>absurd (uG (uO q) (z ▸ I.ok.above)) (wb _)
 have nst:∀b,b∉X.fs->b≠X.env.locals->b∉frs X.stack:=λb n1 n2 m=>by
  rw[hst] at m
  unfold frs at m
  rw[wx,hfr] at m
  rcases vn.mp m with z | z
  ·exact n2 z
  ·exact n1 z
 have ust:=F.step f2 (F.slots k)
 have sub:∀b∈X.fs,b∈frs X.stack:=λb m=>by
  rw[hst];unfold frs;rw[wx,hfr];exact u6 _ m
 have nx:∀b,b∉X.ex:=λb m=>by rw[hex] at m;cases m
 refine ⟨f2,⟨λb o q n m _ =>?_,λb o q n m _ =>?_,λb o q n _ =>?_,λb o q _ =>?_,λb xs q=>F.un.tups b xs (I.base.tups b xs q),λb o u q=>F.un.frzs b o u (I.base.frzs b o u q),λb ps q =>?_⟩,F.ok,λb o q n m =>?_,λb o q m =>?_⟩
 ·exact ust.keep b o (I.base.keep b o q n m (nx b)) (I.base.free b o q n (nx b)) (nst b m (nL b o q)) (by simp)
 ·obtain ⟨sl,e⟩:=I.base.slot b o q n m (nx b)
  obtain ⟨sl',e'⟩:=ust.slot b _ e (I.base.free b o q n (nx b)) (sub b m) (by simp)
  exact ⟨sl',e'⟩
 ·obtain ⟨o',e⟩:=I.base.there b o q (nx b)
  exact F.un.free b o' e (I.base.free b o q n (nx b)) (by simp)
 ·obtain ⟨o',e⟩:=I.base.there b o q (nx b)
  exact ust.there b o' e (by simp)
 ·obtain ⟨m1,e1⟩:=I.base.tbls b ps q
  obtain ⟨m2,e2⟩:=F.un.tbls b _ e1
  exact ⟨m1++m2,by rw[e2,Ay]⟩
 ·exact F.cov b o (I.base.keep b o q n m (nx b)) (I.base.free b o q n (nx b)) (nst b m (nL b o q))
 ·obtain ⟨o',e⟩:=I.base.there b o q (nx b)
  exact F.all b o' e (nst b m (nL b o q))
theorem Fly.pass {M:Model}{E:ug->uj->Prop}{Q:Unit->uj->Prop}{s':uj}(I:Inv X pins σ H s)(hst:X.stack=X.env :: X.outer)(hfr:X.env.frame=some X.env.locals)(hex:X.ex=[])
  (F:Fly X.prog X.w X.stack H H' s.heap B ea cls a0 s'.heap) (hQ:∀h2,Fly X.prog X.w X.outer X.H₀ H' X.s₀.heap B ea cls a0 h2->Q () { s' with heap:=h2 }):vm M X.A (leaving X.env (.ref ea)) Q E s':=by
 have fl:=F.fl
 rw[hst] at fl
 exact wpAny_leaves_onW (by rw[I.ok.frames,hst]) hfr fl λh2 f2 k=>hQ h2 (Fly.out I hst hfr hex F f2 k)
theorem Fly.made {M:Model}{E:ug->uj->Prop}{Q:Unit->uj->Prop}{s':uj}{vs:List ug}(I:Inv X pins σ H s)(hst:X.stack=X.env :: X.outer)(hfr:X.env.frame=some X.env.locals)(hex:X.ex=[])
  (hx:Heap.MadeExcOf s.heap s'.heap ea cls vs) (hQ:∀h2 B a0,Fly X.prog X.w X.outer X.H₀ H X.s₀.heap B ea cls a0 h2->Q () { s' with heap:=h2 }):vm M X.A (leaving X.env (.ref ea)) Q E s':=by
 have ff:=I.stack
 have hin:∀env∈X.stack,∀b,env.frame=some b->b∈frs X.stack:=λenv he b hb=>yk.mpr ⟨env,he,hb⟩
 have ff':=funFrames_hide ff hin
 have fh:∀b∈frs X.stack,H b=none:=I.i7
 have F0:∀h2 t,Heap.FlyingW (hideAll s.heap (frs X.stack)) X.outer ea cls (.ref t) h2->s'.heap.UpToSlots h2->Fly X.prog X.w X.outer X.H₀ H X.s₀.heap (hideAll s.heap (frs X.stack)) ea cls (.ref t) h2:=λh2 t f2 k=>by
  have nL:∀b o,X.s₀.heap.get? b=some o->b≠X.env.locals:=λb o q z=>absurd (uG (uO q) (z ▸ I.ok.above)) (wb _)
  have nst:∀b,b∉X.fs->b≠X.env.locals->b∉frs X.stack:=λb n1 n2 m=>by
   rw[hst] at m
   unfold frs at m
   rw[wx,hfr] at m
   rcases vn.mp m with z | z
   ·exact n2 z
   ·exact n1 z
  have sub:∀b∈X.fs,b∈frs X.stack:=λb m=>by
   rw[hst];unfold frs;rw[wx,hfr];exact u6 _ m
  have nx:∀b,b∉X.ex:=λb m=>by rw[hex] at m;cases m
  have sl:∀b∈frs X.stack,∀o,s.heap.get? b=some o->∃sl,h2.get? b=some { o with slots:=sl }:=λb m o e=>by
   obtain ⟨_,o',ho',hd⟩:=ff.mem m
   rw[e] at ho';cases ho'
   exact k b o (hx.keeps _ _ e) hd
  refine ⟨f2,⟨λb o q n m _ =>?_,λb o q n m _ =>?_,λb o q n _=>I.base.free b o q n (nx b),λb o q _ =>?_,I.base.tups,I.base.frzs,I.base.tbls⟩,I.hok.hide fh,λb o q n m =>?_,λb o q m =>?_⟩
  ·exact f2.1 _ _ (zI _ (I.base.keep b o q n m (nx b)) (nst b m (nL b o q)))
  ·obtain ⟨s1,e⟩:=I.base.slot b o q n m (nx b)
   obtain ⟨s2,e'⟩:=sl b (sub b m) _ e
   exact ⟨s2,e'⟩
  ·obtain ⟨o',e⟩:=I.base.there b o q (nx b)
   by_cases m:b∈frs X.stack
   ·obtain ⟨s2,e'⟩:=sl b m _ e
    exact ⟨_,e'⟩
   ·exact ⟨o',f2.1 _ _ (zI _ e m)⟩
  ·exact zI _ (I.base.keep b o q n m (nx b)) (nst b m (nL b o q))
  ·obtain ⟨o',e⟩:=I.base.there b o q (nx b)
   exact ⟨o',zI _ e (nst b m (nL b o q))⟩
 rw[hst] at ff'
 refine wpAny_leaves_madeW (base:=hideAll s.heap (frs (X.env :: X.outer))) (by rw[I.ok.frames,hst]) hfr (λb o q=>of_hideAll _ q) ff' hx λh2 t f2 _ _ k =>?_
 rw[<- hst] at f2
 exact hQ h2 _ _ (F0 h2 t f2 k)
end
open PySem PySem.Spec PySem.W PyProof.Rows
theorem Fun.okX {P:uM}{w:vt}{K:uh}{mg:Str->Option ug}{base:Heap}{x qual:Str}{st:Stmt}{f:Addr}{fd:vD}{N ps:List Str}{k:Nat}{sp:Sp}(F:Fun K x qual st f fd)(S:aI N ps (ao st))(len:∀vs H Q E,sp vs H Q E->vs.length=ps.length)
  (hb:∀(cdv:ug) (A:vz) (outer:List Env) (s:uj) (H:Hp) (vs:List V) (Q:VK) (E:XK),bT k (A.deeper (envOfC qual (ao st) s.heap.objs.size f cdv))->sp vs H Q E →
   ∃t,PSs (gp (CX1 P w) P w K mg base N qual (ao st) f cdv A outer s H E) (bI st) t/\t { nx:=λ_ H'=>Q .non H',rt:=Q } (start N vs) H):bF P w K mg base (CX1 P w) (k+1) f fd ps sp:=by
 obtain ⟨oc,od,kV,doc,pm,an,cdv,ct,osl,rfl,lk,hcd⟩:=F.ex
 exact qI lk hcd S len λA outer s H vs Q E hr hsp=>hb cdv A outer s H vs Q E hr hsp
structure nk (P:uM)(w:vt)(K:uh)(mg:Str->Option ug)(base:Heap)(k:Nat)(x:Str)(ps:List Str)(sp:Sp):Prop where
 ex:∃f fd,bF P w K mg base (CX1 P w) k f fd ps sp/\mg x=some (.ref f)/\PySem.W.keepIn K (.ref f)=true/\Binds K fd ps []
section
variable  {P:uM}{w:vt}{K:uh}{mg:Str->Option ug}{base:Heap}{N:List Str}{qual:Str}{sc:Scope}{f:Addr}{cdv:ug}{A:vz}{outer:List Env}{s₀:uj}{H₀:Hp}{E:XK}
theorem tU:Passes (CX1 P w) (gp (CX1 P w) P w K mg base N qual sc f cdv A outer s₀ H₀ E) E:=λpins σ H s e s' I h=>by
 obtain ⟨ea,cls,a0,B,H2,rfl,os,g,F,q⟩:=h
 exact Fly.pass I rfl rfl rfl F λh2 F2=>⟨ea,cls,a0,B,H2,rfl,os.trans I.os,g,F2,q⟩
def tV (X:Cx)(E:XK):Prop:=∀(pins:List (Addr×Obj)) (σ:St) (H:Hp) (s:uj) (h':Heap) (ea:Addr) (cls:ug) (vs:List ug),Inv X pins σ H s->Heap.MadeExcOf s.heap h' ea cls vs->E cls none H->X.xe (.ref ea) { s with heap:=h' }
theorem tW:tV (gp (CX1 P w) P w K mg base N qual sc f cdv A outer s₀ H₀ E) E:=λpins σ H s h' ea cls vs I hx q=>by
 exact Fly.made (s':={ s with heap:=h' }) I rfl rfl rfl hx λh2 B a0 F2=>⟨ea,cls,a0,B,H,rfl,I.os,I.bare,F2,q⟩
end
abbrev oP:List ug:=[.type "ValueError",.type "Exception",.type "BaseException",.type "object"]
structure ExC (K:uh)(mg:Str->Option ug)(x:Str)(C:Addr):Prop where
 ex:excIn K C oP "ValueError.__new__" = true
 mg:mg x=some (.ref C)
theorem sA {K:uh}{h:Heap}{C:Addr}{bs:List ug}{nid:String}(X:K.In h)(q:excIn K C bs nid=true) :
  ∃bm N nm q bs' hd sn sub ab col dd k0 k1 k2 k3 k5 mN,h.get? C=some (excClassObj nm q C N bs' bm hd sn sub ab col dd k0 k1 k2 k3 k5 nid)/\h.Ns N mN/\mN "__init__" = none/\OwnTail h bs bm:=by
 unfold excIn at q
 split at q
 ·rename_i d1 c1 sl1 l1
  split at q
  ·rename_i C1 b1 j0 j1 j2 j3 n1 j5 m1 s1
   simp only[vZ,beq_iff_eq,Bool.not_eq_true'] at q
   obtain ⟨⟨⟨⟨⟨rfl,rfl⟩,q1⟩,q2⟩,q3⟩,q4⟩:=q
   obtain ⟨a1,a2,a3,a4,a5,a6,a7,a8,a9,a10,a11⟩:=c1
   dsimp only at m1 q1 q3 q4
   subst m1 q1
   obtain ⟨ll⟩:=sl1
   simp only at s1
   subst s1
   exact ⟨b1,a4,a1,a5,a2,a6,a7,a8,a9,a10,d1,j0,j1,j2,j3,j5,_,X _ _ l1,.of_isNs (isNs_of_in X q3),nsMap_none_of_in X q3 q4,tail_of_in X q2⟩
  ·cases q
 ·cases q
def sC (E:XK)(cls:ug)(t:TA):TS:=λ_ σ H=>t σ H λvs H1=>vs.length<=uL/\E cls none H1
theorem oQ {X:Cx}{E:XK}{C:Addr}{x:Str}{e:Expr}{es:List Expr}{t:TA}{np cpos pos:Pos}(O:tV X E)(hc:ExC X.K X.mg x C)(hh:X.A.handled=none)(hg:Gl X x)(ha:PA X (e :: es) t)
  (hdb:(x == ("__debug__" : Str))=false:=by decide) (he:vG (e :: es) X.env=(false,eval e X.env) :: vG es X.env:=by rfl) (hpl:(yX cpos (vG es X.env)).any (·.1)=false:=by rfl) :
  PS X (.Raise (some (.Call (.Name x np) (e :: es) [] cpos)) none pos) (sC E (.ref C) t):=by
 intro pins s σ H D I h
 obtain ⟨bm,N,nm,q,bs',hd,sn,sub,ab,col,dd,k0,k1,k2,k3,k5,mN,hC,hN,hni,T⟩:=sA I.mod.kin hc.ex
 have hpl':(yX cpos (vG (e :: es) X.env)).any (·.1)=false:=by
  rw[he]
  show (false || (yX cpos (vG es X.env)).any (·.1))=false
  rw[hpl];rfl
 refine wpAny_Raise_call_subT (nm:=nm) (q:=q) (N:=N) (bs:=bs') (bm:=bm) (hdct:=hd) (sn:=sn) (sub:=sub) (ab:=ab) (col:=col) (dd:=dd) (k0:=k0) (k1:=k1) (k2:=k2) (k3:=k3) (k5:=k5) (mN:=mN)
  Ah (T.hasType Ah.hasBase) hh hpl' hni (eN I hg hc.mg ⟨rfl,?_⟩ hdb)
 have hs:=ha cpos pins s σ H _ I h
 rw[he] at hs ⊢
 refine Ae (wG hs (λus s2 ⟨vs,H1,I1,r,z,qE⟩=>⟨rfl,by rw[<- r.length];exact z,I1.bk _ _ hC,hN.keeps I1.bk,T.keeps I1.bk,λh' ea hx=>O pins σ H1 s2 h' ea _ _ I1 hx qE⟩) λ_ _ y=>y)
open PySem PySem.Spec PySem.W PyProof.Rows
abbrev Cx.mark (X:Cx)(ea:Addr):Cx:={ X with A:=X.A.mark (some (.ref ea)),calm:=false,xe:=λ_ _=>False }
section
variable  {X:Cx}{pins:List (Addr×Obj)}{σ:St}{H H':Hp}{s s':uj}{B h':Heap}{ea:Addr}{cls a0:ug}
theorem Inv.mark (I:Inv X pins σ H s)(ea:Addr):Inv (X.mark ea) pins σ H s :=
 ⟨⟨I.ok.mod,I.ok.kind,I.ok.glob,I.ok.blt,I.ok.above,I.ok.inj,I.ok.has,I.ok.cab,(λz=>Bool.noConfusion z),I.ok.frames,I.ok.stk,I.ok.exf,I.ok.bs,I.ok.bsz,I.ok.noex,I.ok.exfs,I.ok.funs,I.ok.frf⟩,I.os,I.bare,I.base,I.loc,I.cell,I.free,I.freeC,I.pin,I.hok,I.len⟩
theorem Inv.unmark (ok:X.Ok)(I:Inv (X.mark ea) pins σ H s):Inv X pins σ H s:=⟨ok,I.os,I.bare,I.base,I.loc,I.cell,I.free,I.freeC,I.pin,I.hok,I.len⟩
def kg (ea:Addr)(cls:ug):HO :=.ext λh=>∃o,h.get? ea=some o/\o.cls=cls
theorem HOk.exc {P:uM}{w:vt}{h:Heap}(x:HOk P w H h)(hn:H ea=none)(hc:∃o,h.get? ea=some o/\o.cls=cls):HOk P w (upd H ea (kg ea cls)) h:=λb u e=>by
 by_cases z:b=ea
 ·subst z
  rw[ag] at e
  cases e
  refine ⟨hc,?_,λh1 h2 p k =>?_⟩
  ·obtain ⟨o,q,_⟩:=hc;exact ⟨o,q⟩
  ·obtain ⟨o,q,c⟩:=p;exact ⟨o,k o q,c⟩
 ·rw[ak z] at e
  exact (x b u e).stay (λ_ _ _ q=>q) (λc q=>by rw[ak (aq q hn)];exact q) λc xs q=>by rw[ak (aq q hn)];exact q
theorem Inv.exc (I0:Inv X pins σ H s)(I:Inv X pins σ H' s')(F:Fly X.prog X.w X.stack H H' s.heap B ea cls a0 s'.heap):Inv X pins σ (upd H' ea (kg ea cls)) s':=by
 have nn:=F.new
 have hn:=F.no
 have ne:∀b o,s.heap.get? b=some o->b≠ea:=λb o q z=>by rw[z,nn] at q;cases q
 have nh:∀b u,H' b=some u->b≠ea:=λb u q=>aq q hn
 refine ⟨I.ok,I.os,I.bare,⟨I.base.keep,I.base.slot,λb o q n m =>?_,I.base.there,λb xs q =>?_,λb o u q =>?_,λb ps q =>?_⟩,I.loc,I.cell,?_,λx c e =>?_,λp hp =>?_,I.hok.exc hn F.fl.there,I.len⟩
 ·obtain ⟨o',e⟩:=I0.base.there b o q m
  rw[ak (ne b o' e)];exact I.base.free b o q n m
 ·have:=I.base.tups b xs q
  rw[ak (nh b _ this)];exact this
 ·have:=I.base.frzs b o u q
  rw[ak (nh b _ this)];exact this
 ·obtain ⟨mo,this⟩:=I.base.tbls b ps q
  exact ⟨mo,by rw[ak (nh b _ this)];exact this⟩
 ·obtain ⟨m,⟨o,_,_,ho,_⟩,_⟩:=I0.loc
  rw[ak (ne _ o ho)];exact I.free
 ·obtain ⟨v,o,ho,_⟩:=I0.cell x c e
  rw[ak (ne _ o ho)];exact I.freeC x c e
 ·obtain ⟨e,n,n1,n2,d⟩:=I.pin p hp
  obtain ⟨e0,_⟩:=I0.pin p hp
  exact ⟨e,by rw[ak (ne _ _ e0)];exact n,n1,n2,d⟩
theorem Inv.gone {i:Nat}{x:Str}{m:Str->Option ug}{v:Option ug}{tk:Nat}(I:Inv X pins σ H s)(hN:X.N.Nodup)(hi:X.N[i]? = some x)(hn:s.heap.Ns X.env.locals m)(hl:∀(j:Nat) (y:Str) (v:V),X.N[j]? = some y->σ[j]? = some (some v)->Vis X.env.scope y->∃u,RelV v u/\Look X.env s.heap m y u)
  (hn':h'.Ns X.env.locals (λy=>if y=x then v else m y)) (hs:Heap.SameBut X.env.locals s.heap h'):Inv X pins (σ.set i none) H { s with heap:=h',toks:=tk }:=by
 obtain ⟨oL,_,_,hoL,_⟩:=id hn
 have cne:=I.cne
 have lt:∀b o,X.s₀.heap.get? b=some o->b≠X.env.locals:=λb o e=>ve (uG (uO e) I.ok.above)
 refine ⟨I.ok,I.os,I.bare,⟨λb o e n hb hx =>?_,λb o e n hb hx =>?_,I.base.free,λb o e hx =>?_,I.base.tups,I.base.frzs,I.base.tbls⟩,⟨_,hn',λj y v' e1 e2 e3 =>?_⟩,λy c e =>?_,I.free,I.freeC,λp hp =>?_,λb ob e =>?_,by simpa using I.len⟩
 ·exact (hs.2 b (lt b o e)).trans (I.base.keep b o e n hb hx)
 ·obtain ⟨sl,e1⟩:=I.base.slot b o e n hb hx
  exact ⟨sl,(hs.2 b (lt b o e)).trans e1⟩
 ·obtain ⟨o',e1⟩:=I.base.there b o e hx
  exact ⟨o',(hs.2 b (lt b o e)).trans e1⟩
 ·by_cases hj:j=i
  ·subst hj
   have:j<σ.length:=by rw[I.len];exact (um.mp hi).1
   rw[v8 this] at e2
   cases e2
  ·rw[wK (w6 hj)] at e2
   obtain ⟨u',r',q⟩:=hl j y v' e1 e2 e3
   refine ⟨u',r',?_⟩
   rcases q with ⟨k,e⟩ | ⟨k,c,e,z⟩
   ·have:y≠x:=λe=>hj (gi hN e1 (e ▸ hi))
    exact .inl ⟨k,by simp[this,e]⟩
   ·exact .inr ⟨k,c,e,z.sameBut hs (cne y c e)⟩
 ·obtain ⟨w',z⟩:=I.cell y c e
  exact ⟨w',z.sameBut hs (cne y c e)⟩
 ·obtain ⟨e,n,ne,nf,d⟩:=I.pin p hp
  exact ⟨(hs.2 p.1 ne).trans e,n,ne,nf,d⟩
 ·have fr:=I.free
  refine (I.hok b ob e).stay (λc w' hc q=>(hs.2 c ?_).trans q) (λ_ q=>q) λ_ _ q=>q
  rintro rfl
  rcases hc with rfl | hc
  ·rw[fr] at e;cases e
  ·rw[fr] at hc;cases hc
end
abbrev EXt:=ug->St->Hp->Prop
def XP (X:Cx)(pins:List (Addr×Obj))(EX:EXt)(e:ug)(s':uj):Prop :=
 ∃σ H s ea cls a0 B H',Inv X pins σ H s/\e = .ref ea/\s'.os=s.os/\AllBare s'.gens/\Fly X.prog X.w X.stack H H' s.heap B ea cls a0 s'.heap/\EX cls σ H'
def PSx (X:Cx)(sts:List Stmt)(t:EXt->TS):Prop :=
 ∀(pins:List (Addr×Obj)) (s:uj) (σ:St) (H:Hp) (D:Ends) (EX:EXt),Inv X pins σ H s->t EX D σ H->vm (vk X.prog X.w) X.A (execs sts X.env) (SP X pins D) (XP X pins EX) s
def tX (X:Cx)(st:Stmt)(t:EXt->TS):Prop :=
 ∀(pins:List (Addr×Obj)) (s:uj) (σ:St) (H:Hp) (D:Ends) (EX:EXt),Inv X pins σ H s->t EX D σ H->vm (vk X.prog X.w) X.A (exec st X.env) (SP X pins D) (XP X pins EX) s
section
variable  {X:Cx}{pos:Pos}
theorem qj {st:Stmt}{t:EXt->TS}(h1:tX X st t):PSx X [st] t:=by
 intro pins s σ H D EX I h
 refine zN (thn (h1 pins s σ H D EX I h) λf s1 q =>?_)
 cases f with
 | next=>exact xJ q
 | ret v=>exact q
 | brk=>exact q
 | cont=>exact q
theorem tY {k:Nat}{f:Addr}{fd:vD}{ps:List Str}{sp:Sp}{pins:List (Addr×Obj)}{σ:St}{H:Hp}{s:uj}{Q:VK}{EX:EXt}{us:List ug}{vs:List V}(F:bF X.prog X.w X.K X.mg X.base (CX1 X.prog X.w) k f fd ps sp)(hr:bT k X.A)(hb:Binds X.K fd ps [])
  (I:Inv X pins σ H s) (r:Vals vs us) (h:sp vs H Q λcls _ H'=>EX cls σ H'):vm (vk X.prog X.w) X.A (call (.ref f) us) (EP X pins σ Q) (XP X pins EX) s:=by
 have hl:us.length=ps.length:=by rw[<- r.length];exact F.len _ _ _ _ h
 have hb':=hb s us I.kIn (by rw[vE];exact hl)
 rw[vE] at hb'
 refine Bc (xK (F.run X.A X.stack s H ⟨us,[]⟩ us vs Q _ hr I.tH hb' r h) λr s' hq =>?_)
 cases r with
 | error e =>
  obtain ⟨ea,cls,a0,B,H2,rfl,os,g,F2,q⟩:=hq
  exact ⟨σ,H,s,ea,cls,a0,B,H2,I,rfl,os,g,F2,q⟩
 | ok fl =>
  cases fl with
  | ret u=>exact I.after hq
  | next=>exact False.elim hq
  | brk=>exact False.elim hq
  | cont=>exact False.elim hq
theorem ev_x {j k:Nat}{x:Str}{ps:List Str}{sp:Sp}{e:Expr}{es:List Expr}{t:TA}{p:Pos}{pins:List (Addr×Obj)}{σ:St}{H:Hp}{s:uj}{Q:VK}{EX:EXt}(C:nk X.prog X.w X.K X.mg X.base k x ps sp)(hr:bT j X.A)(hj:k<=j)(hg:Gl X x)(ha:PA X.nox (e :: es) t)
  (hdb:(x == ("__debug__" : Str))=false) (he:vG (e :: es) X.env=(false,eval e X.env) :: vG es X.env) (hpl:(yX pos (vG es X.env)).any (·.1)=false)
  (I:Inv X pins σ H s) (h:t σ H λvs H1=>sp vs H1 Q λcls _ H2=>EX cls σ H2):vm (vk X.prog X.w) X.A (eval (.Call (.Name x p) (e :: es) [] pos) X.env) (EP X pins σ Q) (XP X pins EX) s:=by
 obtain ⟨f,fd,F,m,kp,b⟩:=C.ex
 refine yp (eN I hg m ?_ hdb)
 refine Az (h₀:=X.base) I.ok.mod.kin kp (wG (ha pos pins s σ H _ (I.gk _) h) (λus s1 ⟨vs,H1,I1,r,q⟩=>⟨I1.cG.kIn,?_⟩) λ_ _ z=>False.elim z) he hpl
 exact tY F (hr.mono hj) b I1.cG r q
theorem qk {i j k:Nat}{x y:Str}{ps:List Str}{sp:Sp}{e:Expr}{es:List Expr}{t:TA}{p pos' pos2:Pos}(hN:X.N.Nodup)(hi:X.N[i]? = some y)(hx:Loc X.env.scope y)(C:nk X.prog X.w X.K X.mg X.base k x ps sp)(hr:bT j X.A)(hj:k<=j)(hg:Gl X x)(ha:PA X.nox (e :: es) t)
  (hdb:(x == ("__debug__" : Str))=false:=by decide) (he:vG (e :: es) X.env=(false,eval e X.env) :: vG es X.env:=by rfl) (hpl:(yX pos (vG es X.env)).any (·.1)=false:=by rfl) (hs:swapsWith (.Call (.Name x p) (e :: es) [] pos) (some (.Name y pos2)) pos'.line X.env=pure false:=by rfl) (hf:X.fn y=true\/X.env.scope.names.lookup y=some .local:=by first | exact .inl rfl | exact .inr rfl | assumption) :
  tX X (.Assign [.Name y pos2] (.Call (.Name x p) (e :: es) [] pos) pos') (λEX D σ H=>t σ H λvs H1=>sp vs H1 (λv H2=>D.nx (σ.set i (some v)) H2) λcls _ H2=>EX cls σ H2):=by
 intro pins s σ H D EX I h
 refine Ba (thn (ev_x C hr hj hg ha hdb he hpl I h) λv s1 ⟨y,H1,I1,r1,q1⟩ =>?_) hs
 exact eM I1 hN hi hx r1 (λs2 I2=>⟨_,H1,I2,q1⟩) hf
def tTry (K:uh)(i:Nat)(C:ug)(tb:EXt->TS)(th:TS):TS:=λD σ H =>
 tb (λcls σ1 H1=>exmOne K cls C=some true/\∀ea,H1 ea=none->th { nx:=λσ2 H2=>D.nx (σ2.set i none) H2,rt:=D.rt,bk:=λσ2 H2=>D.bk (σ2.set i none) H2,ct:=λσ2 H2=>D.ct (σ2.set i none) H2 } (σ1.set i (some (.ref ea))) (upd H1 ea (kg ea cls))) D σ H
theorem sD {i:Nat}{n x:Str}{C:ug}{body:List Stmt}{b₀:Stmt}{suite:List Stmt}{tb:EXt->TS}{th:TS}{np hp:Pos}(hst:X.stack=X.env :: X.outer)(hfr:X.env.frame=some X.env.locals)
    (hN:X.N.Nodup) (hi:X.N[i]? = some n) (hx:X.env.scope.names.lookup n=some .local) (hg:Gl X x) (hm:X.mg x=some C) (hb:PSx X body tb) (hs:∀ea,PSs (X.mark ea) (b₀ :: suite) th) (hdb:(x == ("__debug__" : Str))=false:=by decide) :
    PS X (.Try body [.ExceptHandler (some (.Name x np)) (some n) (b₀ :: suite) hp] [] [] pos) (tTry X.K i C tb th):=by
  intro pins s σ H D I h
  refine wpAny_Try_except (wG (hb pins s σ H D _ I h) (λf s1 q =>?_) λe s1 hx1 =>?_)
  · cases f with
    | next=>exact xJ q
    | ret v=>exact q
    | brk=>exact q
    | cont=>exact q
  obtain ⟨σ1,H1,s0,ea,cls,a0,B,H2,I1,rfl,os,g,F,hm2,q⟩:=hx1
  have fl:=F.fl
  have hfr':X.A.frames=some (X.env :: X.outer):=by rw[I1.ok.frames,hst]
  rw[hst] at fl
  refine wpAny_looks_onW hfr' hfr fl λh4 held4 k4 =>?_
  refine wpAny_landsW held4 λh5 f5 k5 =>?_
  rw[<- hst] at f5
  have F5:=F.on f5 (k4.trans k5)
  have I5:Inv X pins σ1 H2 { s1 with heap:=h5 }:=I1.land os g F5
  refine wpAny_handleBy_cons (codeAny_handlers_test ?_) (by intro z;cases z)
  refine eN (X:=X.mark ea) (I5.mark ea) hg hm ?_ hdb
  have LT:Looks (vk X.prog X.w) h5 (typeOf (.ref ea)) cls:=by
    obtain ⟨ob,hob,hc⟩:=f5.there
    subst hc
    exact (Looks.ld hob).andThen .now
  refine (exm_one (M:=vk X.prog X.w) I5.kIn LT hm2).here ?_
  refine codeAny_handlers_suite_as ?_
  refine lands_againW f5 λh6 f6 k6 =>?_
  have F6:=F5.on f6 k6
  have I6:Inv X pins σ1 H2 { s1 with heap:=h6 }:=I1.land os g F6
  have I7:=I1.exc I6 F6
  refine eM (v :=.ref ea) I7 hN hi (.inl hx) rfl (λs7 I8 =>?_) (.inr hx)
  have cls0:(X.env.scope.kind == .class || (X.env.scope.kind == .module && X.env.locals != X.env.globals))=false:=by rw[I.ok.kind];rfl
  have go:∀{σ2:St} {H3:Hp} {s8:uj} {Q:Unit->uj->Prop} {E:ug->uj->Prop},Inv (X.mark ea) pins σ2 H3 s8->(∀s9,Inv X pins (σ2.set i none) H3 s9->Q () s9)->vm (vk X.prog X.w) X.A (do bindName X.env n .none;unbindBehindTheSuite X.env n hp) Q E s8:=λ{σ2 H3 s8 Q E} J hQ=>by
    have J':Inv X pins σ2 H3 s8:=J.unmark I.ok
    obtain ⟨m,hn,hl⟩:=J'.loc
    exact wpAny_nameGoes_keeps hx hn cls0 λh9 v hn9 hs9=>hQ _ (J'.gone hN hi hn hl hn9 hs9)
  refine wG (hs ea pins s7 _ _ _ (I8.mark ea) (q ea F.no)) (λf s8 r =>?_) λ_ _ z=>False.elim z
  cases f with
  | next =>
    obtain ⟨σ2,H3,J,r⟩:=r
    exact go J λs9 J9=>⟨_,H3,J9,r⟩
  | brk =>
    obtain ⟨σ2,H3,J,r⟩:=r
    exact go J λs9 J9=>⟨_,H3,J9,r⟩
  | cont =>
    obtain ⟨σ2,H3,J,r⟩:=r
    exact go J λs9 J9=>⟨_,H3,J9,r⟩
  | ret u =>
    obtain ⟨v,σ2,H3,J,rv,r⟩:=r
    exact go J λs9 J9=>⟨v,_,H3,J9,rv,r⟩
end
open PySem PySem.Spec PySem.W PyProof.Rows
structure ExI (K:uh)(C:Addr):Prop where
 ga:findIn K (.ref C) "__getattribute__" = some (some (.builtin "BaseException.__getattribute__"))
 gt:findIn K (.ref C) "__getattr__" = some none
 cl:findIn K (.ref C) "__class__" = some (some (.builtin "object.__class__"))
 mo:subIn K (.ref C) (.type "object")=some true
 sb:subIn K (.ref C) (.type "BaseException")=some true
 it:(clsIn K C).isSome=true
section
variable  {K:uh}{prog:uM}{w:vt}{A:vz}{E:ug->uj->Prop}{h:Heap}{g:Array GenState}{d:Drawn}{t:Nat}{os:OsState}{a C:Addr}{o:Obj}
theorem sE {R:Result->uj->Prop}(X:K.In h)(Z:ExI K C)(hx:h.get? a=some o)(hc:o.cls = .ref C)(hq:R (.ok (.ret (.ref C))) ⟨h,g,d,t,os⟩) :
  zJ (vk prog w) A (.call (.builtin "getset_descriptor.__get__") ⟨[.builtin "object.__class__",.ref a,.ref C],[]⟩) R ⟨h,g,d,t,os⟩:=by
 have hT5:(⟨h,g,d,t,os⟩:uj).TypeIs (.builtin "object.__class__") "getset_descriptor" := yv
 have L1:Looks (vk prog w) h (isSubtype (.ref C) (.type (".".intercalate ("object.__class__".cutAt '.').dropLast))) true:=by rw[F.owner_object_class];exact looks_subIn X Z.mo
 refine xV AK.plain F.entry_gs_get (AK.check _ _ _ _ _ _ _ _ hT5 (F.args_gs_get _ _ _) ?_)
 repeat (any_goals (first | assumption | (with_reducible refine xR hx ?_;rw[hc]) | with_reducible refine L1.at ?_ | wp_step))
 refine ⟨yo _ (by decide +kernel),vM F.entry_object_class ?_⟩
 unfold Builtin.«object.__class__»
 repeat (any_goals (first | assumption | (with_reducible refine xR hx ?_;rw[hc]) | wp_step))
theorem oR {tk:Tok}{Q:Fin->uj->Prop}(X:K.In h)(Z:ExI K C)(hx:h.get? a=some o)(hc:o.cls = .ref C)(hq:Q (.done (.ret (.ref C))) ⟨h,g,d,t,os⟩) :
  vm (vk prog w) A (Builtin.«object.__getattribute__» ⟨[.ref a,.str "__class__" tk],[]⟩) Q E ⟨h,g,d,t,os⟩:=by
 have hT5:(⟨h,g,d,t,os⟩:uj).TypeIs (.builtin "object.__class__") "getset_descriptor" := yv
 have f5:=yv
 have f6:=AK.lookup
 have f7:=F.slot_gs_set.lookup
 have L1:=Bh (M:=vk prog w) X Z.cl
 repeat (any_goals (first | assumption | (with_reducible refine xR hx ?_;rw[hc]) | with_reducible refine L1.at ?_ | wp_step))
 refine sE X Z hx hc ?_
 repeat (any_goals (first | assumption | wp_step))
theorem oS {M:Model}{nv:ug}{Q:Unit->uj->Prop}(X:K.In h)(Z:ExI K C)(hx:h.get? a=some o)(hc:o.cls = .ref C)(hq:Q () ⟨h,g,d,t,os⟩):vm M A (checkBuiltinCall "BaseException.__getattribute__" ⟨[.ref a,nv],[]⟩) Q E ⟨h,g,d,t,os⟩:=by
 have k1:builtinKind "BaseException.__getattribute__" = some .slot:=by decide +kernel
 have k2:splitId "BaseException.__getattribute__" = some ("BaseException", "__getattribute__"):=by decide +kernel
 have L1:=looks_subIn (M:=M) X Z.sb
 have k3:=F.args_bexc_ga (.ref a) nv
 simp only[checkBuiltinCall,k1,k2]
 refine uf ?_
 unfold isInstance
 repeat (first | (with_reducible refine xR hx ?_;rw[hc]) | with_reducible refine L1.at ?_ | wp_step)
 exact hq
theorem ql {Q:Option ug->uj->Prop}(X:K.In h)(Z:ExI K C)(hx:h.get? a=some o)(hc:o.cls = .ref C)(hq:Q (some (.ref C)) ⟨h,g,d,t+1,os⟩) :
  vm (vk prog w) A (getAttr? (.ref a) "__class__") Q E ⟨h,g,d,t,os⟩:=by
 have f3:=(z5).ga.bind (.ref a)
 have y2:(Value.builtin "BaseException.__getattribute__" == Value.builtin "object.__getattribute__")=false:=by decide +kernel
 have y1:(onTheHeap (uW C) && Value.builtin "BaseException.__getattribute__" == Value.builtin "object.__getattribute__")=false:=by rw[y2];rfl
 have L1:=Bh (M:=vk prog w) X Z.ga
 have L2:=Bh (M:=vk prog w) X Z.gt
 unfold getAttr? getAttrBy?
 repeat (any_goals (first | assumption | (with_reducible refine xR hx ?_;rw[hc]) | with_reducible refine L1.at ?_ | with_reducible refine L2.at ?_ | wp_step))
 refine xV (z5).ga.plain F.entry_bexc_ga (oS X Z hx hc (oR X Z hx hc ?_))
 repeat (any_goals (first | assumption | wp_step))
end
open PySem PySem.Spec PySem.W PyProof.Rows
theorem oT {K:uh}{a C:Addr}(Z:ExI K C):KitX K (.ref a) (.ref C) (λh=>∃o,h.get? a=some o/\o.cls = .ref C) where
 ty:=λM h _ p=>by
  obtain ⟨o,h1,h2⟩:=p
  exact h2 ▸ (Looks.ld h1).andThen .now
 it:=λ_ _ X _=>by
  have z:=Z.it
  unfold clsIn at z
  split at z
  ·rename_i c' d' cd' sl' ho
   intro A' Q' E' s' k q
   unfold isType loadHead
   exact uf (wpAny_loadPart (k _ _ (X _ _ ho)) (uD q))
  ·cases z
 ne:=λh tp dd its n sl X htp=>by
  have z:=Z.it
  refine AX.mpr λq =>?_
  have e:C=tp:=Value.ref.inj (beq_iff_eq.mp q)
  subst e
  unfold clsIn at z
  split at z
  ·rename_i c' d' cd' sl' ho
   have y:=(X _ _ ho).symm.trans htp
   cases y
  ·cases z
 ca:=λ{_ _ _ _ _ s} X p k=>by
  obtain ⟨h,g,d,t,os⟩:=s
  obtain ⟨o,h1,h2⟩:=p
  exact ql X Z h1 h2 k
def tZ:V->ug
 | .ref a =>.ref a
 | .ty n =>.type n
 | _ =>.none
def qN:V->Bool
 | .ref _=>true
 | .ty _=>true
 | _=>false
theorem qm {x:V}{u:ug}(h:qN x=true)(r:RelV x u):u=tZ x:=by
 cases x <;> first | exact r | cases h
section
variable  {X:Cx}
theorem bg {K:uh}(hK:X.K=K:=by rfl):bO X (.builtin "isinstance") (λxs H Q=>∃(ea C:Addr) (c:V) (b:Bool),xs=[.ref ea,c]/\H ea=some (kg ea (.ref C))/\ExI K C/\qN c=true/\kitOne K (.ref C) (tZ c)=some b/\Q (.bl b) H):=by
 subst hK
 intro pins s σ H xs us Q I r h
 obtain ⟨ea,C,c,b,rfl,he,Z,hc,hk,q⟩:=h
 cases r with | cons r1 r2 =>
 cases r2 with | cons r2 r3 =>
 cases r3
 obtain rfl:=qm hc r2
 have r1:_=uW ea:=r1
 subst r1
 obtain ⟨p,_⟩:=I.hok ea _ he
 exact kia_one (oT Z) I.kIn p hk (by intro z;cases z) λtk=>⟨.bl b,H,I.tok tk,rfl,q⟩
end
open PySem PySem.Spec PyProof.Rows
def bQ (K:uh)(x:Str)(st:Stmt):Prop:=∃(f:Addr) (od an:Option Addr) (sl:Array (Option ug)) (oc kV dc pm cd ct:ug),vq K vb x=some (some (.ref f))/\K.lookup f=some ⟨oc,od,.func (PySem.W.fnOf x x (cp st) (bI st) (ao st) .none kV dc pm an cd ct),sl⟩/\PySem.W.codeIn K cd x=true/\PySem.W.keepIn K (.ref f)=true
theorem bQ.mk {K:uh}{x:Str}{st:Stmt}{f:Addr}{od an:Option Addr}{sl:Array (Option ug)}{oc kV dc pm cd ct:ug}(a:vq K vb x=some (some (.ref f)))(l:K.lookup f=some ⟨oc,od,.func (PySem.W.fnOf x x (cp st) (bI st) (ao st) .none kV dc pm an cd ct),sl⟩)(c:PySem.W.codeIn K cd x=true)(k:PySem.W.keepIn K (.ref f)=true):bQ K x st:=⟨_,_,_,_,_,_,_,_,_,_,a,l,c,k⟩
theorem bQ.cal {K:uh}{x:Str}{st:Stmt}(hf:bQ K x st)(P:uM)(w:vt)(base:Heap){h:Heap}{mg:Str->Option ug}(X:K.In h)(G:h.Ns vb mg){lv:Nat}{ps:List Str}{sp:Sp}(ok:∀{f:Addr} {fd:vD},Fun K x x st f fd->bF P w K mg base CX0 lv f fd ps sp)
  (hb:∀(kV doc pm:ug) (an:Option Addr) (cdv ct:ug) (us:List ug),us.length=ps.length->bindArgs (PySem.W.fnOf x x (cp st) (bI st) (ao st) .none kV doc pm an cdv ct) ⟨us,[]⟩=pure (ps.zip us)):Cal P w K mg base lv x ps sp:=by
 obtain ⟨f,od,an,sl,oc,kV,dc,pm,cd,ct,a,l,c,k⟩:=hf
 have F:=kF l c k
 exact ⟨_,_,ok F,vW X G a,k,F.binds hb⟩
open PySem PySem.Spec PyProof.Rows
theorem bQ.t7 {K:uh}{x:Str}{st:Stmt}(hf:bQ K x st)(P:uM)(w:vt)(base:Heap){h:Heap}{mg:Str->Option ug}(X:K.In h)(G:h.Ns vb mg){lv:Nat}{ps:List Str}{sp:Sp}(ok:∀{f:Addr} {fd:vD},Fun K x x st f fd->bF P w K mg base (CX1 P w) lv f fd ps sp)
  (hb:∀(kV doc pm:ug) (an:Option Addr) (cdv ct:ug) (us:List ug),us.length=ps.length->bindArgs (PySem.W.fnOf x x (cp st) (bI st) (ao st) .none kV doc pm an cdv ct) ⟨us,[]⟩=pure (ps.zip us)):nk P w K mg base lv x ps sp:=by
 obtain ⟨f,od,an,sl,oc,kV,dc,pm,cd,ct,a,l,c,k⟩:=hf
 have F:=kF l c k
 exact ⟨_,_,ok F,vW X G a,k,F.binds hb⟩
end L2
set_option maxHeartbeats 800000
namespace K70
open PySem L2
def top (i:Nat):Stmt:=PySem.Challenge.pw_ringfell_k70_arrows_that_clear.main.body.getD i (.Pass ⟨0,0,0,0⟩)
abbrev fF:Stmt:=top 14
abbrev gP:Stmt:=top 15
abbrev cJ:Stmt:=top 16
abbrev dz:Stmt:=top 18
abbrev fG:Stmt:=top 19
abbrev cz:Stmt:=top 21
abbrev df:Stmt:=top 22
abbrev cK:Stmt:=top 23
abbrev dh:Stmt:=top 24
abbrev cM:Stmt:=top 25
abbrev gQ:Stmt:=top 27
abbrev lb:Stmt:=top 28
abbrev gR:Stmt:=top 29
abbrev fH:Stmt:=top 30
abbrev jw:Stmt:=top 31
abbrev fI:Stmt:=top 32
abbrev ly:Stmt:=top 33
abbrev di:Stmt:=top 34
abbrev jy:Stmt:=top 35
abbrev lA:Stmt:=top 36
abbrev kh:Stmt:=top 37
structure Blt (mg:Str->Option ug):Prop where
 b_bool:mg "bool" = none
 b_divmod:mg "divmod" = none
 b_int:mg "int" = none
 b_isinstance:mg "isinstance" = none
 b_len:mg "len" = none
 b_list:mg "list" = none
 b_max:mg "max" = none
 b_min:mg "min" = none
 b_range:mg "range" = none
 b_set:mg "set" = none
 b_sorted:mg "sorted" = none
 b_tuple:mg "tuple" = none
 b_ValueError:mg "ValueError" = none
theorem qo:vJ "bool" = some (.type "bool"):=by decide +kernel
theorem nq:vJ "divmod" = some (.builtin "divmod"):=by decide +kernel
theorem sI:vJ "int" = some (.type "int"):=by decide +kernel
theorem az:vJ "isinstance" = some (.builtin "isinstance"):=by decide +kernel
theorem jz:vJ "len" = some (.builtin "len"):=by decide +kernel
theorem jA:vJ "list" = some (.type "list"):=by decide +kernel
theorem oU:vJ "max" = some (.builtin "max"):=by decide +kernel
theorem oV:vJ "min" = some (.builtin "min"):=by decide +kernel
theorem ki:vJ "range" = some (.type "range"):=by decide +kernel
theorem oW:vJ "set" = some (.type "set"):=by decide +kernel
theorem cR:vJ "sorted" = some (.builtin "sorted"):=by decide +kernel
theorem cb:vJ "tuple" = some (.type "tuple"):=by decide +kernel
theorem ig:vJ "ValueError" = some (.type "ValueError"):=by decide +kernel
theorem hu8 {A:vz}{k:Nat}(hr:bT k A):A.units+8<cLine:=yT (yK (by decide:8<=64) _) hr.units
structure Ow (H:Hp)(b:Addr)(m:Int)(ts:List (Addr×List Int)):Prop where
 at':∃t,H b=some (.tup [.int m,.ref t])/\H t=some (.tup (ts.map λu =>.ref u.1))
 tup:Tus H ts
 rng:∀u∈ts,∃x y,u.2=[x,y]/\0<=x/\x<m/\0<=y/\y<m
theorem Ow.same {H H':Hp}{b:Addr}{m:Int}{ts:List (Addr×List Int)}(W:Ow H b m ts)(s:aD H H'):Ow H' b m ts:=by
 obtain ⟨t,e1,e2⟩:=W.at'
 exact ⟨⟨t,s _ _ e1,s _ _ e2⟩,W.tup.same s,W.rng⟩
theorem Ow.bu {n:Nat}{p:Addr}{H H':Hp}{b:Addr}{m:Int}{ts:List (Addr×List Int)}(W:Ow H b m ts)(u:Bu n p H H')(h:Pt n H p):Ow H' b m ts:=by
 obtain ⟨t,e1,e2⟩:=W.at'
 exact ⟨⟨t,u.tup h e1,u.tup h e2⟩,W.tup.bu u h,W.rng⟩
structure Od (m:Int)(os:List Int):Prop where
 nd:os.Nodup
 mem:∀v,v∈os↔0<=v/\v<m
 len:(os.length:Int)=m
def rgI (m:Nat):List Int:=(vC m).map λi:Nat=>(i:Int)
theorem cD {m:Nat}{v:Int}:v∈rgI m↔0<=v/\v<m:=by
 unfold rgI
 rw[uH]
 constructor
 ·rintro ⟨i,hi,rfl⟩
  have:=vY.mp hi
  lia
 ·intro h
  exact ⟨v.toNat,vY.mpr (by lia),by lia⟩
theorem kj:∀m:Nat,(rgI m).Pairwise (· < ·):=λm=>by
 unfold rgI
 rw[vL]
 exact (zS (n:=m)).imp λ{a b} h=>by lia
theorem nr (m:Nat):(rgI m).Nodup:=(kj m).imp λ{a b} h=>by lia
theorem jB (m:Nat):(rgI m).length=m:=by unfold rgI;simp
theorem eY {R:List Int}{m:Nat}(nd:R.Nodup)(h:∀v∈R,0<=v/\v<m):R.length<=m:=by
 have:=xr nd (l₂:=rgI m) λv hv=>cD.mpr (h v hv)
 rwa [jB] at this
def Fr (E:List (List Int))(rk:List Int)(p:Int):Prop:=∀a,[a,p]∈E->a∈rk
structure Nx (m:Nat)(E:List (List Int))(rk:List Int)(p:Int):Prop where
 p0:0<=p
 pm:p<m
 nm:p∉rk
 fr:Fr E rk p
def Gr (m:Nat)(E:List (List Int))(G:List Int):Prop:=G.Nodup/\∀i p,G[i]? = some p->Nx m E (G.take i) p/\∀q,Nx m E (G.take i) q->p<=q
def Stk (m:Nat)(E:List (List Int))(G:List Int):Prop:=∀p,¬ Nx m E G p
section
variable  {m:Nat}{E:List (List Int)}{G:List Int}
theorem Gr.nil:Gr m E []:=⟨w9,λi p e=>by simp at e⟩
theorem Gr.snoc {p:Int}(h:Gr m E G)(n:Nx m E G p)(le:∀q,Nx m E G q->p<=q):Gr m E (G++[p]):=by
 refine ⟨?_,λi x e =>?_⟩
 ·rw[yr]
  exact ⟨h.1,wj.mpr ⟨by simp,w9⟩,λa ha b hb e=>by rw[uw] at hb;subst hb;subst e;exact n.nm ha⟩
 ·rcases Nat.lt_or_ge i G.length with c | c
  ·rw[wA c] at e
   rw[wc (by lia)]
   exact h.2 i x e
  ·have l:=(um.mp e).1
   rw[uv] at l
   have l':i<G.length+1:=l
   have:i=G.length:=by lia
   subst this
   have e':p=x:=by simpa using e
   subst e'
   rw[wc (ur _),uI (ur _)]
   exact ⟨n,le⟩
theorem Gr.rng (h:Gr m E G):∀v∈G,0<=v/\v<m:=λv hv=>by
 obtain ⟨i,e⟩:=vf.mp hv
 have:=(h.2 i v e).1
 exact ⟨this.p0,this.pm⟩
theorem Gr.len (h:Gr m E G):G.length<=m:=eY h.1 h.rng
theorem Gr.uniq {G':List Int}(h:Gr m E G)(h':Gr m E G'):∀i,i<=G.length->i<=G'.length->G.take i=G'.take i
 | 0,_,_=>rfl
 | i+1,l,l'=>by
  have ih:=Gr.uniq h h' i (by lia) (by lia)
  have e:=ux (show i<G.length by lia)
  have e':=ux (show i<G'.length by lia)
  obtain ⟨n,le⟩:=h.2 i _ e
  obtain ⟨n',le'⟩:=h'.2 i _ e'
  rw[ih] at n le
  have:G[i]=G'[i]:=Int.le_antisymm (le _ n') (le' _ n)
  rw[vj,vj,ih,e,e',this]
theorem Gr.is {G':List Int}(h:Gr m E G)(h':Gr m E G')(l:G.length<=G'.length):G=G'.take G.length:=by
 have:=h.uniq h' G.length (ur _) l
 rwa [uI (ur _)] at this
theorem Gr.full (h:Gr m E G)(l:G.length=m){v:Int}(v0:0<=v)(v1:v<m):v∈G:=vI λn=>by
 have:=eY (m:=m) (R:=v :: G) (wj.mpr ⟨n,h.1⟩) λx hx=>by
  rcases vn.mp hx with z | z
  ·subst z;exact ⟨v0,v1⟩
  ·exact h.rng x z
 rw[vh] at this
 lia
theorem Gr.lack (h:Gr m E G)(l:G.length≠m):∃v:Int,0<=v/\v<m/\v∉G:=vI λn=>by
 have:=xr (nr m) (l₂:=G) λv hv=>vI λz=>n ⟨v,(cD.mp hv).1,(cD.mp hv).2,z⟩
 rw[jB] at this
 have:=h.len
 lia
theorem Gr.turn (h:Gr m E G){i:Nat}{L L':List Int}(hL:∀v∈L',v∈L/\∃a∈L,[a,v]∈E)(hi:∀v∈L,v∈G.drop i):∀v∈L',v∈G.drop (i+1):=λv hv=>by
 obtain ⟨h1,a,ha,ea⟩:=hL v hv
 obtain ⟨j,ej⟩:=vf.mp (hi v h1)
 obtain ⟨k,ek⟩:=vf.mp (hi a ha)
 rw[wF] at ej ek
 cases j with
 | succ j=>exact vf.mpr ⟨j,by rw[wF];rw[<- ej];congr 1;lia⟩
 | zero =>
  exfalso
  have:=(h.2 _ v ej).1.fr a ea
  obtain ⟨q,eq⟩:=vf.mp this
  have lq:=(um.mp eq).1
  rw[vx] at lq
  rw[zg (by lia)] at eq
  have lk:=(um.mp ek).1
  have:=(A0 (by lia) h.1).mp (eq.trans ek.symm)
  lia
theorem Stk.turn (h:Stk m E G){L L':List Int}(rE:∀a b,[a,b]∈E->0<=a/\a<m)(hL:∀v,v∈L->(∃a∈L,[a,v]∈E)->v∈L')(hi:∀v:Int,0<=v->v<m->v∉G->v∈L):∀v:Int,0<=v->v<m->v∉G->v∈L':=λv v0 v1 nv=>by
 refine hL v (hi v v0 v1 nv) (vI λno=>h v ⟨v0,v1,nv,λa ea=>vI λna=>no ⟨a,hi a (rE a v ea).1 (rE a v ea).2 na,ea⟩⟩)
end
def cn (E:List (List Int))(rk:List Int)(p:Int):Nat:=E.countP λt=>decide (t.getD 1 0=p/\t.getD 0 0∉rk)
def outs (E:List (List Int))(a:Int):List Int:=(E.filter λt=>decide (t.getD 0 0=a)).map (·.getD 1 0)
theorem l7 {rk:List Int}{a p:Int}(na:a∉rk):∀E:List (List Int),cn E rk p=cn E (rk++[a]) p+(outs E a).count p
 | []=>rfl
 | t :: E=>by
  have ih:=l7 na (p:=p) E
  unfold cn outs at ih ⊢
  rw[zM,zM]
  by_cases c:t.getD 0 0=a
  ·rw[xv (p:=λt:List Int=>decide (t.getD 0 0=a)) (decide_eq_true c),vg,Bv]
   by_cases d:t.getD 1 0=p
   ·rw[if_pos (decide_eq_true ⟨d,by rw[c];exact na⟩),if_neg (λz=>(of_decide_eq_true z).2 (u5 _ (by rw[c];exact uw.mpr rfl))),if_pos (beq_iff_eq.mpr d)]
    lia
   ·rw[if_neg (λz=>d (of_decide_eq_true z).1),if_neg (λz=>d (of_decide_eq_true z).1),if_neg (λz=>d (beq_iff_eq.mp z))]
    lia
  ·rw[xw (p:=λt:List Int=>decide (t.getD 0 0=a)) (λz=>c (of_decide_eq_true z))]
   have:decide (t.getD 1 0=p/\t.getD 0 0∉rk)=decide (t.getD 1 0=p/\t.getD 0 0∉rk++[a]):=decide_eq_decide.mpr ⟨λz=>⟨z.1,λy=>by rcases uC.mp y with y | y;exact z.2 y;exact c (uw.mp y)⟩,λz=>⟨z.1,λy=>z.2 (vS _ y)⟩⟩
   rw[this]
   lia
theorem dR {E:List (List Int)}(pr:∀t∈E,∃x y:Int,t=[x,y]){rk:List Int}{p:Int}:cn E rk p=0↔Fr E rk p:=by
 unfold cn
 rw[List.countP_eq_zero]
 constructor
 ·intro h a ha
  have:=h _ ha
  apply vI
  intro z
  exact this (decide_eq_true ⟨rfl,z⟩)
 ·intro h t ht z
  obtain ⟨x,y,rfl⟩:=pr t ht
  obtain ⟨z1,z2⟩:=of_decide_eq_true z
  have z1:y=p:=z1
  subst z1
  exact z2 (h x ht)
theorem kn {E:List (List Int)}(pr:∀t∈E,∃x y:Int,t=[x,y]){a v:Int}:v∈outs E a↔[a,v]∈E:=by
 unfold outs
 rw[uH]
 constructor
 ·rintro ⟨t,ht,rfl⟩
  obtain ⟨h1,h2⟩:=yj.mp ht
  obtain ⟨x,y,rfl⟩:=pr t h1
  have:x=a:=of_decide_eq_true h2
  subst this
  exact h1
 ·intro h
  exact ⟨[a,v],yj.mpr ⟨h,decide_eq_true rfl⟩,rfl⟩
def swp (t:List Int):List Int:=[t.getD 1 0,t.getD 0 0]
theorem oX {E E':List (List Int)}(pm:E'.Perm (E.map swp))(p:Int):(outs E' p).length=cn E [] p:=by
 unfold outs cn
 rw[ue, <- yF,pm.countP_eq,Bz]
 apply A1
 intro t _
 show decide (t.getD 1 0=p)=true↔_
 simp
theorem nt (E:List (List Int))(x y a:Int):outs (E++[[x,y]]) a=outs E a++if x=a then [y] else []:=by
 unfold outs
 rw[xE,uJ]
 congr 1
 by_cases c:x=a
 ·rw[if_pos c,xv (by simpa using c)];rfl
 ·rw[if_neg c,xw (by simpa using c)];rfl
theorem ko (E:List (List Int))(a:Int):(outs E a).length<=E.length:=by unfold outs;rw[ue];exact z6 _ _
open PySem L2
def Rg (m:Int)(us:List (Addr×List Int)):Prop:=∀u∈us,∃x y,u.2=[x,y]/\0<=x/\x<m/\0<=y/\y<m
theorem Rg.snoc {m:Int}{us:List (Addr×List Int)}(h:Rg m us){t:Addr}{x y:Int}(x0:0<=x)(x1:x<m)(y0:0<=y)(y1:y<m):Rg m (us++[(t,[x,y])]):=λu hu=>by
 rcases uC.mp hu with z | z
 ·exact h u z
 ·rw[uw] at z;subst z;exact ⟨x,y,rfl,x0,x1,y0,y1⟩
structure Rows (H2 H':Hp)(as:List Addr)(vs:List (List Int)):Prop where
 len:vs.length=as.length
 row:∀(j:Nat) a v,as[j]? = some a->vs[j]? = some v->H' a=some (.lst (v.map V.int))
 stay:∀b u,b∉as->H2 b=some u->H' b=some u
theorem Rows.push {H2 H':Hp}{as:List Addr}{vs:List (List Int)}(R:Rows H2 H' as vs)(nd:as.Nodup){j:Nat}{a:Addr}{v:List Int}(ea:as[j]? = some a)(ev:vs[j]? = some v)(x:Int) :
  Rows H2 (upd H' a (.lst ((v.map V.int)++[V.int x]))) as (vs.set j (v++[x])):=by
 have hj:j<vs.length:=(um.mp ev).1
 refine ⟨by rw[zX];exact R.len,λi b u eb eu =>?_,λb u hb e =>?_⟩
 ·by_cases h:i=j
  ·subst h
   rw[ea] at eb;cases eb
   rw[v8 hj] at eu;cases eu
   rw[ag,uJ];rfl
  ·rw[wK (w6 h)] at eu
   have ne:b≠a:=λz=>by
    subst z
    have hi:i<as.length:=(um.mp eb).1
    exact h ((A0 hi nd).mp (eb.trans ea.symm))
   rw[ak ne]
   exact R.row i b u eb eu
 ·have ne:b≠a:=λz=>hb (z ▸ uS ea)
  rw[ak ne]
  exact R.stay b u hb e
abbrev oY:Sp:=λvs H Q _=>∃(r:Addr) (m:Nat) (ts:List (Addr×List Int)),vs=[.ref r]/\Ow H r (m:Int) ts/\m<=200/\ts.length<=300/\∀(l:Addr) (H':Hp) (as:List Addr),aD H H'->H' l=some (.lst (as.map V.ref))->as.length=m->(∀(j:Nat) a,as[j]? = some a->H' a=some (.lst ((outs (ts.map (·.2)) (j:Int)).map V.int)))->Q (.ref l) H'
@[irreducible] def kq:Sp:=oY
theorem dS {vs:List V}{H:Hp}{Q:VK}{E:XK}:kq vs H Q E↔oY vs H Q E:=by
 delta kq
 exact xk
section
variable  {P:uM}{w:vt}{K:uh}{mg:Str->Option ug}{base:Heap}{f T:Addr}{fd:vD}
theorem eF:aI ["web", "lists", "arrow"] ["web"] (ao fF):=⟨rfl,rfl,rfl,by decide +kernel,rfl,by decide +kernel,by decide +kernel⟩
theorem fJ:(["place"]:List Str).Nodup:=by decide +kernel
theorem lB (F:Fun K "out_lists" "out_lists" fF f fd)(B:Blt mg):bF P w K mg base CX0 1 f fd ["web"] kq:=by
 refine F.ok eF (λvs H Q E h =>?_) (λcdv A outer s H vs Q E hr h =>?_)
 ·obtain ⟨_,_,_,rfl,_⟩:=dS.mp h
  rfl
 obtain ⟨r,m,ts,rfl,W,m2,tl,q⟩:=dS.mp h
 refine ⟨_,(@ai _ _ _ _ _ (bV (i:=1) ["place"] [none] rfl eF.nd rfl rfl (aY rfl B.b_range (@aa _ _ _ _ _ (@aJ _ _ _ _ _ _ _ aT (pv 0) ah (λ_ _=>rfl)) ae rfl)) rfl (λ_ _ _ _ _=>(aH (i:=0) fJ rfl (Or.inl rfl))) (λ_ _ _ _ _=>fz) (λ_ _ _ _ _=>(@cv _ _ _ _ ae)))
  (@ai _ _ _ _ _ (@cc _ _ _ _ _ _ _ _ vO rfl (@ef _ _ _ _ (@aJ _ _ _ _ _ _ _ aT (pv 0) ah (λ_ _=>rfl))) (aH (i:=2) eF.nd rfl (Or.inl rfl))
   (@aj _ _ _ (bC (bS uV vA vB bH (@aJ _ _ _ _ _ _ _ bD (pv 1) (@aJ _ _ _ _ _ _ _ aT (pv 2) ah (λ_ _=>rfl)) (λ_ _=>rfl)) (@aa _ _ _ _ _ (@aJ _ _ _ _ _ _ _ aT (pv 2) ah (λ_ _=>rfl)) ae rfl)))) (λ_=>rfl))
  (@aj _ _ _ (@aX _ _ _ _ (pv 1))))),?_⟩
 obtain ⟨t,e1,e2⟩:=W.at'
 let W0:Nat->List V->Hp->Prop:=λi ys H'=>aD H H'/\∃as:List Addr,ys=as.map V.ref/\as.length=i/\as.Nodup/\∀a∈as,H a=none/\H' a=some (.lst [])
 refine ⟨_,rfl,r,_,0,_,rfl,rfl,SqT.of e1,rfl,(m:Int),rfl,by lia,by lia,dv (lo:=0) (n:=m) W0 ⟨aD.refl _,[],rfl,rfl,w9,λa ha=>by cases ha⟩ (small (by lia)) ?_ ?_⟩
 ·rintro i ys H3 hi hy ⟨s3,as,rfl,la,nd,ha⟩ R1 R0 r1 r0
  refine fw ⟨(by show 0<=uL;decide),λp hp=>r1 _ _ ⟨s3.trans (af hp _),as++[p],by rw[uJ];rfl,by rw[uv,la];rfl,?_,λa m' =>?_⟩⟩
  ·rw[yr]
   refine ⟨nd,wj.mpr ⟨by simp,w9⟩,λx hx y hy e =>?_⟩
   rw[uw] at hy
   subst hy;subst e
   rw[(ha x hx).2] at hp;cases hp
  ·rcases uC.mp m' with z | z
   ·exact ⟨(ha a z).1,(af hp _) _ _ (ha a z).2⟩
   ·rw[uw] at z
    subst z
    exact ⟨s3.free hp,ag⟩
 rintro ys H3 hy ⟨s3,as,rfl,la,nd,ha⟩ l hl
 have s1:=s3.trans (af hl (.lst (as.map V.ref)))
 have nl:l∉as:=λz=>by rw[(ha l z).2] at hl;cases hl
 have ha1:∀a∈as,upd H3 l (.lst (as.map V.ref)) a=some (.lst []):=λa z=>(af hl _) _ _ (ha a z).2
 have hl1:upd H3 l (.lst (as.map V.ref)) l=some (.lst (as.map V.ref)):=ag
 generalize upd H3 l (.lst (as.map V.ref))=H1 at s1 ha1 hl1
 have old:∀{b:Addr} {o:HO},H b=some o->b∉as:=λ{b o} e z=>by rw[(ha b z).1] at e;cases e
 let W1:Nat->St->Hp->Prop:=λi σ H'=>(∃c,σ=[some (.ref r),some (.ref l),c])/\∃vs,Rows H1 H' as vs/\∀(j:Nat) v,vs[j]? = some v->v=outs ((ts.map (·.2)).take i) (j:Int)
 refine ⟨_,rfl,r,_,1,_,rfl,rfl,SqT.of (s1 _ _ e1),rfl,t,rfl,⟨_,SqT.of (s1 _ _ e2)⟩,lJ (xs:=ts.map λu =>.ref u.1) W1 ⟨⟨_,rfl⟩,BJ m [],⟨by rw[zW,la],λj b v eb ev =>?_,λb u _ e=>e⟩,λj v ev =>?_⟩ (λi σ H' _ z =>?_) ?_ ?_⟩
 ·rw[yl] at ev
  split at ev
  ·cases ev
   exact ha1 b (uS eb)
  ·cases ev
 ·rw[yl] at ev
  split at ev
  ·cases ev;rfl
  ·cases ev
 ·obtain ⟨_,vs,R,_⟩:=z
  exact SqT.of (R.stay t _ (old e2) (s1 _ _ e2))
 ·rintro i x σ H' hx ⟨⟨c,rfl⟩,vs,R,RO⟩
  obtain ⟨u,eu,rfl⟩:=iX hx
  have mu:=uS eu
  obtain ⟨x,y,e3,x0,x1,y0,y1⟩:=W.rng u mu
  have hu0:=W.tup u mu
  have hu':=R.stay _ _ (old hu0) (s1 _ _ hu0)
  rw[e3] at hu'
  have tk:(ts.map (·.2)).take (i+1)=(ts.map (·.2)).take i++[[x,y]]:=by rw[vj,uF,eu, <- e3];rfl
  obtain ⟨xn,rfl⟩:∃n:Nat,x=n:=⟨x.toNat,by lia⟩
  have lv:=R.len
  have hlst:=R.stay l _ nl hl1
  have axn:as[xn]? = some as[xn]:=ux (by lia)
  have vxn:vs[xn]? = some vs[xn]:=ux (by lia)
  have at1:atI (as.map V.ref) (xn:Int)=some (.ref as[xn]):=dH (by rw[uF,axn];rfl)
  have ll:vs[xn].length<=300:=by
   rw[RO xn _ vxn]
   refine vc (ko _ _) ?_
   rw[vx,ue]
   lia
  have rowx:=R.row xn _ _ axn vxn
  refine ⟨_,rfl,_,rfl,u.1,_,0,_,rfl,rfl,SqT.of hu',rfl,l,_,(xn:Int),_,rfl,rfl,SqL.of hlst,at1,.inl ⟨rfl,_,SqL.of rowx⟩,_,rfl,u.1,_,1,_,rfl,rfl,SqT.of hu',rfl,as[xn],_,_,rfl,rfl,rowx,(by rw[ue];exact aW (by lia)),?_⟩
  refine ⟨⟨_,rfl⟩,_,R.push nd axn vxn y,λj v ev =>?_⟩
  rw[tk,nt]
  by_cases jx:xn=j
  ·subst jx
   rw[v8 (by lia)] at ev
   cases ev
   rw[if_pos rfl, <- RO xn _ vxn]
  ·rw[wK jx] at ev
   rw[if_neg (by lia),vE]
   exact RO j v ev
 ·rintro σ H' ⟨⟨c,rfl⟩,vs,R,RO⟩
  rw[ue,uI (by rw[ue];exact ur _)] at RO
  refine ⟨_,rfl,q l H' as (λb o e=>R.stay b o (old e) (s1 _ _ e)) (R.stay l _ nl hl1) la λj a ea =>?_⟩
  have lv:=R.len
  have hj:=(um.mp ea).1
  have ev:vs[j]? = some vs[j]:=ux (by lia)
  rw[<- RO j _ ev]
  exact R.row j a _ ea ev
end
abbrev kr:Sp:=λvs H Q _=>∃(r:Addr) (m:Nat) (ts:List (Addr×List Int)),vs=[.ref r]/\Ow H r (m:Int) ts/\ts.length<=250/\∀(b:Addr) (us:List (Addr×List Int)) (H':Hp),aD H H'->Ow H' b (m:Int) us->(us.map (·.2)).Perm ((ts.map (·.2)).map swp)->Q (.ref b) H'
@[irreducible] def gf:Sp:=kr
theorem dA {vs:List V}{H:Hp}{Q:VK}{E:XK}:gf vs H Q E↔kr vs H Q E:=by
 delta gf
 exact xk
section
variable  {P:uM}{w:vt}{K:uh}{mg:Str->Option ug}{base:Heap}{f T:Addr}{fd:vD}
theorem gS:aI ["web"] ["web"] (ao cJ):=⟨rfl,rfl,rfl,by decide +kernel,rfl,by decide +kernel,by decide +kernel⟩
theorem dB:(["arrow"]:List Str).Nodup:=by decide +kernel
theorem gT (F:Fun K "turned_arrows" "turned_arrows" cJ f fd)(B:Blt mg):bF P w K mg base CX0 1 f fd ["web"] gf:=by
 refine F.ok gS (λvs H Q E h =>?_) (λcdv A outer s H vs Q E hr h =>?_)
 ·obtain ⟨_,_,_,rfl,_⟩:=dA.mp h
  rfl
 obtain ⟨r,m,ts,rfl,W,tl,q⟩:=dA.mp h
 refine ⟨_,(@aj _ _ _ (@aX _ _ _ _ (@bE _ _ _ _ _ (@aa _ _ _ _ _ (@aJ _ _ _ _ _ _ _ aT (pv 0) ah (λ_ _=>rfl)) (@aa _ _ _ _ _ (aR aU rfl B.b_tuple cb (@aa _ _ _ _ _ (ax da rfl B.b_sorted cR (@aa _ _ _ _ _ (cY ["arrow"] [none] rfl (@ef _ _ _ _ (@aJ _ _ _ _ _ _ _ aT (pv 0) ah (λ_ _=>rfl))) rfl (λ_ _ _ _ _=>(aH (i:=0) dB rfl (Or.inl rfl))) (λ_ _ _ _ _=>fz) (λ_ _ _ _ _=>(@bE _ _ _ _ _ (@aa _ _ _ _ _ (@aJ _ _ _ _ _ _ _ (fZ (K:=K)) (pv 0) ah (λ_ _=>rfl)) (@aa _ _ _ _ _ (@aJ _ _ _ _ _ _ _ (fZ (K:=K)) (pv 0) ah (λ_ _=>rfl)) ae rfl) rfl)))) ae rfl)) ae rfl)) ae rfl) rfl)))),?_⟩
 obtain ⟨t,e1,e2⟩:=W.at'
 let W2:Nat->List V->Hp->Prop:=λi ys H'=>aD H H'/\∃us:List (Addr×List Int),ys=us.map (λu =>.ref u.1)/\Tus H' us/\us.map (·.2)=((ts.map (·.2)).take i).map swp
 refine ⟨_,rfl,r,_,0,_,rfl,rfl,SqT.of e1,rfl,_,rfl,r,_,1,_,rfl,rfl,SqT.of e1,rfl,t,rfl,⟨_,SqT.of e2⟩,dI (xs:=ts.map λu =>.ref u.1) W2 ⟨aD.refl _,[],rfl,λu hu=>(by cases hu),rfl⟩ (by rw[ue];exact small (by lia)) (λi ys H' _ k=>SqT.of (k.1 _ _ e2)) ?_ ?_⟩
 ·rintro i x ys H1 hx hy ⟨s1,us,rfl,tu,eu⟩ R1 R0 r1 r0
  obtain ⟨u,hu,rfl⟩:=iX hx
  have mu:=uS hu
  obtain ⟨x,y,e3,_⟩:=W.rng u mu
  have hu1:=s1 _ _ (W.tup u mu)
  rw[e3] at hu1
  refine fw ⟨_,rfl,u.1,_,1,_,rfl,rfl,SqT.of hu1,rfl,_,rfl,u.1,_,0,_,rfl,rfl,SqT.of hu1,rfl,(by show 2<=uL;decide),λa ha=>r1 _ _ ⟨s1.trans (af ha _),us++[(a,[y,x])],by rw[uJ];rfl,Tus.snoc (tu.same (af ha _)) (u:=(a,[y,x])) ag,?_⟩⟩
  rw[uJ,eu,vj,uF,hu,uJ]
  show _++[[y,x]]=_++[swp u.2]
  rw[e3];rfl
 ·rintro ys H1 hy ⟨s1,us,rfl,tu,eu⟩ l hl
  rw[ue,uI (by rw[ue];exact ur _)] at eu
  have rg:Rg (m:Int) us:=λu hu=>by
   have:u.2∈us.map (·.2):=uH.mpr ⟨u,hu,rfl⟩
   rw[eu] at this
   obtain ⟨v,hv,ev⟩:=uH.mp this
   obtain ⟨w,hw,rfl⟩:=uH.mp hv
   obtain ⟨x,y,e,x0,x1,y0,y1⟩:=W.rng w hw
   exact ⟨y,x,by rw[<- ev,e];rfl,y0,y1,x0,x1⟩
  have g5:=af hl (.lst (us.map λu =>.ref u.1))
  have el:upd H1 l (.lst (us.map λu =>.ref u.1)) l=some (.lst (us.map λu =>.ref u.1)):=ag
  refine ⟨l,us,rfl,.inl (SqL.of el),λt ht=>⟨SqT.of ((tu.same g5) t ht),?_⟩,λl2 out hl2 pm so =>?_⟩
  ·obtain ⟨x,y,e,_⟩:=rg t ht
   rw[e]
   intro z
   cases z
  refine ⟨l2,_,rfl,.inl ⟨SqL.of ag,λl3 hl3=>⟨(by show 2<=uL;decide),λb hb =>?_⟩⟩⟩
  have gA:=((g5.trans (af hl2 (.lst (out.map λt =>.ref t.1)))).trans (af hl3 (.tup (out.map λt =>.ref t.1)))).trans (af hb (.tup [.int (m:Int),.ref l3]))
  refine q b out _ (s1.trans gA) ⟨⟨l3,ag,(af hb _) _ _ ag⟩,λu hu=>gA _ _ (tu u (pm.mem_iff.mp hu)),λu hu=>rg u (pm.mem_iff.mp hu)⟩ (by rw[<- eu];exact pm.map _)
end
abbrev qO:Sp:=λvs H Q _=>∃(r:Addr) (m:Nat) (ts:List (Addr×List Int)),vs=[.ref r]/\Ow H r (m:Int) ts/\m<=200/\ts.length<=250/\∀(l:Addr) (H':Hp) (as:List Addr) (vs:List (List Int)),aD H H'->H' l=some (.lst (as.map V.ref))->as.length=m->vs.length=m->(∀(j:Nat) a v,as[j]? = some a->vs[j]? = some v->H' a=some (.lst (v.map V.int)))->(∀(j:Nat) v,vs[j]? = some v->v.length=cn (ts.map (·.2)) [] (j:Int))->Q (.ref l) H'
@[irreducible] def qp:Sp:=qO
theorem gU {vs:List V}{H:Hp}{Q:VK}{E:XK}:qp vs H Q E↔qO vs H Q E:=by
 delta qp
 exact xk
section
variable  {P:uM}{w:vt}{K:uh}{mg:Str->Option ug}{base:Heap}{f T:Addr}{fd:vD}
theorem nu:aI ["web"] ["web"] (ao gP):=⟨rfl,rfl,rfl,by decide +kernel,rfl,by decide +kernel,by decide +kernel⟩
theorem nz (F:Fun K "in_lists" "in_lists" gP f fd)(B:Blt mg)(cOutLists:Cal P w K mg base 1 "out_lists" ["web"] kq)(cTurnedArrows:Cal P w K mg base 1 "turned_arrows" ["web"] gf):bF P w K mg base CX0 2 f fd ["web"] qp:=by
 refine F.ok nu (λvs H Q E h =>?_) (λcdv A outer s H vs Q E hr h =>?_)
 ·obtain ⟨_,_,_,rfl,_⟩:=gU.mp h
  rfl
 obtain ⟨r,m,ts,rfl,W,m2,tl,q⟩:=gU.mp h
 refine ⟨_,(@aj _ _ _ (@aX _ _ _ _ (aB cOutLists hr (by decide) rfl (@aa _ _ _ _ _ (aB cTurnedArrows hr (by decide) rfl (@aa _ _ _ _ _ (pv 0) ae rfl)) ae rfl)))),?_⟩
 refine ⟨_,rfl,dA.mpr ⟨r,m,ts,rfl,W,tl,λb us H1 s1 W1 pm =>?_⟩⟩
 have lu:us.length=ts.length:=by have:=pm.length_eq;simpa using this
 refine dS.mpr ⟨b,m,us,rfl,W1,m2,by lia,λl H2 as s2 el la hr =>?_⟩
 refine q l H2 as ((vC m).map λj:Nat=>outs (us.map (·.2)) (j:Int)) (s1.trans s2) el la (by simp) (λj a v ea ev =>?_) λj v ev =>?_
 ·rw[uF] at ev
  have hj:j<m:=by have:=(um.mp ea).1;lia
  rw[Ap hj] at ev
  cases ev
  exact hr j a ea
 ·rw[uF] at ev
  cases h:(vC m)[j]? with
  | none=>rw[h] at ev;cases ev
  | some k =>
   have:k=j:=by have:=um.mp h;obtain ⟨h1,h2⟩:=this;simpa using h2.symm
   subst this
   rw[h] at ev
   cases ev
   exact oX pm _
end
open PySem L2
theorem aD.cg {H H':Hp}{l:Addr}(s:aD H H')(hl:H l=none)(o:HO):aD H (upd H' l o):=λb u e=>by
 rw[ak (aq e hl)];exact s _ _ e
theorem ku {i:Nat}{v:V}{σ:St}{H:Hp}{Q:St->Hp->Prop}(h:Q (σ.set i (some v)) H):eO i v σ H Q:=h
theorem sJ {a b:TS}{D:Ends}{σ:St}{H:Hp}(h:a { D with nx:=b D } σ H):sQ a b D σ H:=h
def sL (H:Hp)(l:Addr):Nat:=match H l with
 | some (.lst xs)=>xs.length
 | _=>0
theorem l8 {H:Hp}{l:Addr}{xs:List V}(e:H l=some (.lst xs)):sL H l=xs.length:=by unfold sL;rw[e]
abbrev qP:Sp:=λvs H Q _=>∃(r:Addr) (m:Nat) (ts:List (Addr×List Int)),vs=[.ref r]/\Ow H r (m:Int) ts/\m<=200/\ts.length<=250/\∀(l:Addr) (H':Hp) (G:List Int),aD H H'->H l=none->H' l=some (.lst (G.map V.int))->Gr m (ts.map (·.2)) G->Stk m (ts.map (·.2)) G->Q (.ref l) H'
@[irreducible] def oZ:Sp:=qP
theorem eZ {vs:List V}{H:Hp}{Q:VK}{E:XK}:oZ vs H Q E↔qP vs H Q E:=by
 delta oZ
 exact xk
section
variable  {P:uM}{w:vt}{K:uh}{mg:Str->Option ug}{base:Heap}{f T:Addr}{fd:vD}
theorem bo:aI ["web", "behind", "counts", "ready", "ranks", "place", "other"] ["web"] (ao dz):=⟨rfl,rfl,rfl,by decide +kernel,rfl,by decide +kernel,by decide +kernel⟩
theorem fK:(["row"]:List Str).Nodup:=by decide +kernel
theorem cC:(["place", "counts"]:List Str).Nodup:=by decide +kernel
theorem jC (F:Fun K "first_ranks" "first_ranks" dz f fd)(B:Blt mg)(cOutLists:Cal P w K mg base 1 "out_lists" ["web"] kq)(cInLists:Cal P w K mg base 2 "in_lists" ["web"] qp):bF P w K mg base CX0 3 f fd ["web"] oZ:=by
 refine F.ok bo (λvs H Q E h =>?_) (λcdv A outer s H vs Q E hr h =>?_)
 ·obtain ⟨_,_,_,rfl,_⟩:=eZ.mp h
  rfl
 obtain ⟨r,m,ts,rfl,W,m2,tl,q⟩:=eZ.mp h
 refine ⟨_,(@ai _ _ _ _ _ (@ay _ _ 1 _ _ _ _ bo.nd rfl (Or.inl rfl) (aB cOutLists hr (by decide) rfl (@aa _ _ _ _ _ (pv 0) ae rfl)) rfl (by first | exact .inl rfl | exact .inr rfl | assumption))
  (@ai _ _ _ _ _ (@ay _ _ 2 _ _ _ _ bo.nd rfl (Or.inr rfl) (cY ["row"] [none] rfl (@dG _ _ _ _ (aB cInLists hr (by decide) rfl (@aa _ _ _ _ _ (pv 0) ae rfl))) rfl (λ_ _ _ _ _=>(aH (i:=0) fK rfl (Or.inl rfl))) (λ_ _ _ _ _=>fz) (λ_ _ _ _ _=>(ax (mI (K:=K)) rfl B.b_len jz (@aa _ _ _ _ _ (pv 0) ae rfl)))) rfl (by first | exact .inl rfl | exact .inr rfl | assumption))
  (@ai _ _ _ _ _ (bV (i:=3) ["place", "counts"] [none,some 2] rfl bo.nd rfl rfl (aY rfl B.b_range (@aa _ _ _ _ _ (@aJ _ _ _ _ _ _ _ aT (pv 0) ah (λ_ _=>rfl)) ae rfl)) rfl (λ_ _ _ _ _=>(aH (i:=0) cC rfl (Or.inl rfl))) (λ_ _ _ _ _=>(eC (aE dt (@aJ _ _ _ _ _ _ _ (og (K:=K)) (pv 1) (pv 0) (λ_ _=>rfl)) ah (aS _)))) (λ_ _ _ _ _=>(pv 0)))
  (@ai _ _ _ _ _ (@ay _ _ 4 _ _ _ _ bo.nd rfl (Or.inl rfl) (@cv _ _ _ _ ae) rfl (by first | exact .inl rfl | exact .inr rfl | assumption))
  (@ai _ _ _ _ _ (nN vO (nW (pv 3) (λ_=>rfl))
   (@ai _ _ _ _ _ (@ay _ _ 5 _ _ _ _ bo.nd rfl (Or.inl rfl) (ax (ng rfl) rfl B.b_min oV (@aa _ _ _ _ _ (pv 3) ae rfl)) rfl (by first | exact .inl rfl | exact .inr rfl | assumption))
   (@ai _ _ _ _ _ (bC (bS uV xh zr gO (pv 3) (@aa _ _ _ _ _ (pv 5) ae rfl)))
   (@ai _ _ _ _ _ (bC (bS uV vA vB bH (pv 4) (@aa _ _ _ _ _ (pv 5) ae rfl)))
   (@aj _ _ _ (@cc _ _ _ _ _ _ _ _ vO rfl (@dG _ _ _ _ (@aJ _ _ _ _ _ _ _ bD (pv 1) (pv 5) (λ_ _=>rfl))) (aH (i:=6) bo.nd rfl (Or.inl rfl))
    (@ai _ _ _ _ _ (ph (pv 2) (pv 6) nc ah rD set_list)
    (@aj _ _ _ (@bR _ _ _ _ _ _ _ _ (aE dt (@aJ _ _ _ _ _ _ _ bD (pv 2) (pv 6) (λ_ _=>rfl)) ah (aS _)) (@aj _ _ _ (bC (bS uV vA vB bH (pv 3) (@aa _ _ _ _ _ (pv 6) ae rfl)))) ba))) (λ_=>rfl)))))))
  (@aj _ _ _ (@aX _ _ _ _ (pv 4)))))))),?_⟩
 have O:=W.rng
 have pr:∀t∈ts.map (·.2),∃x y:Int,t=[x,y]:=λt ht=>by
  obtain ⟨u,hu,rfl⟩:=uH.mp ht
  obtain ⟨x,y,e,_⟩:=O u hu
  exact ⟨x,y,e⟩
 have rE:∀a b:Int,[a,b]∈ts.map (·.2)->(0<=a/\a<m)/\0<=b/\b<m:=λa b h=>by
  obtain ⟨u,hu,e'⟩:=uH.mp h
  obtain ⟨x,y,e,x0,x1,y0,y1⟩:=O u hu
  rw[e] at e'
  cases e'
  exact ⟨⟨x0,x1⟩,y0,y1⟩
 refine ⟨_,rfl,dS.mpr ⟨r,m,ts,rfl,W,m2,by lia,λbl H1 as s1 eb la hb =>?_⟩⟩
 refine ⟨_,rfl,gU.mpr ⟨r,m,ts,rfl,W.same s1,m2,tl,λil H2 as2 vs s2 ei la2 lv hv hc =>?_⟩⟩
 have s02:=s1.trans s2
 generalize hE:ts.map (·.2)=E at pr rE hb hc q
 refine ⟨il,rfl,⟨_,SqL.of ei⟩,eD (xs:=as2.map V.ref) (λi ys H'=>H'=H2/\ys=((vs.take i).map λv=>(v.length:Int)).map V.int) ⟨rfl,rfl⟩ (by rw[ue];exact small (by lia)) (λi ys H' _ k=>by rw[k.1];exact SqL.of ei) ?_ ?_⟩
 ·rintro i x ys H3 hx hy ⟨eH,rfl⟩ R1 R0 r1 r0
  rw[uF] at hx
  have hi:i<as2.length:=by
   rcases Nat.lt_or_ge i as2.length with c | c
   ·exact c
   ·rw[xI c] at hx;cases hx
  have ea:=ux hi
  have ev:vs[i]? = some vs[i]:=ux (by lia)
  rw[ea] at hx
  cases hx
  have row:=hv i _ _ ea ev
  rw[<- eH] at row
  refine fw ⟨_,rfl,as2[i],_,rfl,.inl (SqL.of row),r1 _ _ ⟨eH,?_⟩⟩
  rw[vj,ev,uJ,uJ,ue];rfl
 rintro ys H3 hy ⟨eH,rfl⟩ lc hlc
 rw[eH] at hlc ⊢
 rw[ue,uI (by lia)]
 have ccs:∀j:Nat,j<m->(vs.map λv=>(v.length:Int))[j]? = some (cn E [] (j:Int):Int):=λj hj=>by
  have ev:vs[j]? = some vs[j]:=ux (by lia)
  rw[uF,ev, <- hc j _ ev];rfl
 have lcs:(vs.map λv=>(v.length:Int)).length=m:=by rw[ue,lv]
 generalize (vs.map λv=>(v.length:Int))=Cs at ccs lcs
 have g3:=af hlc (.lst (Cs.map V.int))
 have elc:upd H2 lc (.lst (Cs.map V.int)) lc=some (.lst (Cs.map V.int)):=ag
 generalize upd H2 lc (.lst (Cs.map V.int))=H4 at g3 elc
 obtain ⟨t,e1,e2⟩:=(W.same (s02.trans g3)).at'
 let W0:Nat->List V->Hp->Prop:=λi ys H'=>H'=H4/\∃Rd:List Int,ys=Rd.map V.int/\Rd.Nodup/\∀p:Int,p∈Rd↔0<=p/\p<i/\cn E [] p=0
 refine ⟨_,rfl,r,_,0,_,rfl,rfl,SqT.of e1,rfl,(m:Int),rfl,by lia,by lia,dv (lo:=0) (n:=m) W0 ⟨rfl,[],rfl,w9,λp=>⟨λz=>(by cases z),λz=>(by lia)⟩⟩ (small (by lia)) ?_ ?_⟩
 ·rintro i ys H5 hi hy2 ⟨eH5,Rd,rfl,nd,hR⟩ R1 R0 r1 r0
  have e0:(0+(i:Int))=((i:Nat):Int):=by lia
  rw[eH5]
  refine ⟨_,rfl,_,rfl,lc,_,_,_,rfl,rfl,SqL.of elc,dH (v:=V.int (cn E [] (i:Int):Int)) (by rw[uF,wY,ccs i hi];rfl),rfl,_,rfl,?_⟩
  refine bU (λz =>?_) λz =>?_
  ·have z':cn E [] (i:Int)=0:=by have:=V.int.inj (of_decide_eq_true z);lia
   refine ⟨_,rfl,r1 _ _ ⟨rfl,Rd++[(0+(i:Int))],by rw[uJ];rfl,?_,λp =>?_⟩⟩
   ·rw[yr]
    exact ⟨nd,wj.mpr ⟨by simp,w9⟩,λa ha b hb e=>by rw[uw] at hb;have:=(hR a).mp ha;lia⟩
   ·rw[uC,uw,hR p,e0]
    constructor
    ·rintro (y | y)
     ·exact ⟨y.1,by lia,y.2.2⟩
     ·rw[y];exact ⟨by lia,by lia,z'⟩
    ·rintro ⟨y1,y2,y3⟩
     by_cases c:p=(i:Int)
     ·exact .inr c
     ·exact .inl ⟨y1,by lia,y3⟩
  ·refine r0 _ ⟨rfl,Rd,rfl,nd,λp =>?_⟩
   rw[hR p]
   constructor
   ·exact λy=>⟨y.1,by lia,y.2.2⟩
   ·rintro ⟨y1,y2,y3⟩
    refine ⟨y1,?_,y3⟩
    have:p≠(i:Int):=λc=>z (decide_eq_true (by rw[<- c,y3];rfl))
    lia
 rintro ys H5 hy2 ⟨eH5,Rd,rfl,nd,hR⟩ lr hlr
 rw[eH5] at hlr ⊢
 have g5:=af hlr (.lst (Rd.map V.int))
 have elr:upd H4 lr (.lst (Rd.map V.int)) lr=some (.lst (Rd.map V.int)):=ag
 have n1:lc≠lr:=aq elc hlr
 have elc5:=g5 _ _ elc
 generalize upd H4 lr (.lst (Rd.map V.int))=H5' at g5 elr elc5
 refine ⟨(by show 0<=uL;decide),λlk hlk =>?_⟩
 have g6:=af hlk (.lst [])
 have elk:upd H5' lk (.lst []) lk=some (.lst (([]:List Int).map V.int)):=ag
 have n2:lc≠lk:=aq elc5 hlk
 have n3:lr≠lk:=aq elr hlk
 have elc6:=g6 _ _ elc5
 have elr6:=g6 _ _ elr
 have fc:H2 lc=none:=hlc
 have fr:H2 lr=none:=g3.free hlr
 have fk:H2 lk=none:=(g3.trans g5).free hlk
 have s26:=g3.trans (g5.trans g6)
 generalize upd H5' lk (.lst [])=H6 at g6 elk elc6 elr6 s26
 have eb2:=s2 _ _ eb
 refine ku ?_
 dsimp only
 refine sJ ?_
 refine nS (λσ H'=>∃(c5 c6:Option V) (Cs Rd rk:List Int),σ=[some (.ref r),some (.ref bl),some (.ref lc),some (.ref lr),some (.ref lk),c5,c6]/\aD H2 H'/\H' lc=some (.lst (Cs.map V.int))/\H' lr=some (.lst (Rd.map V.int))/\H' lk=some (.lst (rk.map V.int))/\Gr m E rk/\Cs.length=m/\(∀j:Nat,j<m->Cs[j]? = some (cn E rk (j:Int):Int))/\Rd.Nodup/\∀p,p∈Rd↔Nx m E rk p)
  (λ_ H'=>m-sL H' lk) ⟨_,_,Cs,Rd,[],rfl,s26,elc6,elr6,elk,Gr.nil,lcs,ccs,nd,λp=>(hR p).trans ⟨λy=>⟨y.1,y.2.1,by simp,(dR pr).mp y.2.2⟩,λy=>⟨y.p0,y.pm,(dR pr).mpr y.fr⟩⟩⟩ ?_ ?_
 ·rintro σ H' ⟨c5,c6,Cs,Rd,rk,rfl,s',ec,er,ek,G,lC,hC,nR,hR⟩
  refine ⟨_,rfl, !(Rd.map V.int).isEmpty,.inl ⟨_,SqL.of er,rfl⟩,?_⟩
  by_cases hY:Rd=[]
  ·subst hY
   refine cW ⟨_,rfl,q lk H' rk (s02.trans s') (s02.free fk) ek G λp hp =>?_⟩
   have:=(hR p).mpr hp
   cases this
  rw[show (!(Rd.map V.int).isEmpty)=true by cases Rd with | nil=>exact absurd rfl hY | cons a t=>rfl]
  refine fw ⟨_,rfl,lr,Rd,rfl,SqL.of er,hY,λM hM le =>?_⟩
  have nx:=(hR M).mp hM
  have rk1:=G.len
  refine ⟨_,rfl,.inl ⟨rfl,_,SqL.of er⟩,_,rfl,lr,Rd,M,rfl,rfl,er,hM,?_⟩
  have s7:=aD.cg s' fr (.lst ((Rd.erase M).map V.int))
  have er7:upd H' lr (.lst ((Rd.erase M).map V.int)) lr=some (.lst ((Rd.erase M).map V.int)):=ag
  have ec7:upd H' lr (.lst ((Rd.erase M).map V.int)) lc=some (.lst (Cs.map V.int)):=by rw[ak n1];exact ec
  have ek7:upd H' lr (.lst ((Rd.erase M).map V.int)) lk=some (.lst (rk.map V.int)):=by rw[ak n3.symm];exact ek
  generalize upd H' lr (.lst ((Rd.erase M).map V.int))=H7 at s7 er7 ec7 ek7
  refine ⟨_,rfl,.inl ⟨rfl,_,SqL.of ek7⟩,_,rfl,lk,_,_,rfl,rfl,ek7,by rw[ue];exact aW (by lia),?_⟩
  rw[show rk.map V.int++[V.int M]=(rk++[M]).map V.int by rw[uJ];rfl]
  have s8:=aD.cg s7 fk (.lst ((rk++[M]).map V.int))
  have ek8:upd H7 lk (.lst ((rk++[M]).map V.int)) lk=some (.lst ((rk++[M]).map V.int)):=ag
  have ec8:upd H7 lk (.lst ((rk++[M]).map V.int)) lc=some (.lst (Cs.map V.int)):=by rw[ak n2];exact ec7
  have er8:upd H7 lk (.lst ((rk++[M]).map V.int)) lr=some (.lst ((Rd.erase M).map V.int)):=by rw[ak n3];exact er7
  generalize upd H7 lk (.lst ((rk++[M]).map V.int))=H8 at s8 er8 ec8 ek8
  have M0:=nx.p0
  have M1:=nx.pm
  obtain ⟨k,rfl⟩:∃n:Nat,M=n:=⟨M.toNat,by lia⟩
  have hk:k<as.length:=by lia
  have eak:as[k]? = some as[k]:=ux hk
  have row:=s2 _ _ (hb k _ eak)
  have row8:=s8 _ _ row
  have G':=G.snoc nx λq hq=>le q ((hR q).mpr hq)
  have lo:(outs E (k:Int)).length<=250:=vc (ko _ _) (by rw[<- hE,ue];exact tl)
  have nrk:∀o∈outs E (k:Int),o∉rk++[(k:Int)]:=λo ho hm=>by
   have ho:=(kn pr).mp ho
   obtain ⟨j,ej⟩:=vf.mp hm
   have:=(G'.2 j o ej).1.fr _ ho
   have lj:=(um.mp ej).1
   rw[uv] at lj
   have lj:j<rk.length+1:=lj
   rw[wc (by lia)] at this
   exact nx.nm (xf this)
  generalize ho:outs E (k:Int)=os at row8 lo nrk
  have cs:=λp=>l7 (p:=p) nx.nm E
  rw[ho] at cs
  generalize hrk:rk++[(k:Int)]=rk' at ek8 G' nrk cs
  refine ⟨_,rfl,_,rfl,bl,_,_,_,rfl,rfl,SqL.of (s8 _ _ eb2),dH (v:=V.ref as[k]) (by rw[uF,eak];rfl),as[k],rfl,⟨_,SqL.of row8⟩,nQ (xs:=os.map V.int) (λi σ H'=>∃(c6:Option V) (Cs Rd:List Int),σ=[some (.ref r),some (.ref bl),some (.ref lc),some (.ref lr),some (.ref lk),some (.int k),c6]/\aD H2 H'/\H' lc=some (.lst (Cs.map V.int))/\H' lr=some (.lst (Rd.map V.int))/\H' lk=some (.lst (rk'.map V.int))/\Cs.length=m/\(∀j:Nat,j<m->Cs[j]? = some ((cn E rk' (j:Int)+(os.drop i).count (j:Int):Nat):Int))/\Rd.Nodup/\∀p,p∈Rd↔0<=p/\p<m/\p∉rk'/\cn E rk' p+(os.drop i).count p=0) ⟨_,Cs,Rd.erase k,rfl,s8,ec8,er8,ek8,lC,λj hj =>?_,nR.erase _,λp =>?_⟩ (λi σ H' _ z =>?_) ?_ ?_⟩
  ·rw[hC j hj,y7,cs]
  ·rw[nR.mem_erase_iff,hR p,y7, <- cs, <- hrk,uC,uw]
   constructor
   ·rintro ⟨y1,y2⟩
    exact ⟨y2.p0,y2.pm,λy=>y.elim y2.nm y1,(dR pr).mpr y2.fr⟩
   ·rintro ⟨y1,y2,y3,y4⟩
    exact ⟨λy=>y3 (.inr y),y1,y2,λy=>y3 (.inl y),(dR pr).mp y4⟩
  ·obtain ⟨_,_,_,_,s9,_⟩:=z
   have:=s9 _ _ row
   rw[ho] at this
   exact SqL.of this
  ·rintro i x σ Ha hx ⟨c6,Cs,Rd,rfl,sa,eca,era,eka,lCa,hCa,nRa,hRa⟩
   obtain ⟨o,eo,rfl⟩:=oM hx
   have mo:=uS eo
   have oE:[(k:Int),o]∈E:=(kn pr).mp (by rw[ho];exact mo)
   obtain ⟨_,o0,o1⟩:=rE _ _ oE
   have no:=nrk o mo
   obtain ⟨on,rfl⟩:∃n:Nat,o=n:=⟨o.toNat,by lia⟩
   have on1:on<m:=by lia
   have hi:=(um.mp eo).1
   have dr:os.drop i=(on:Int) :: os.drop (i+1):=by rw[y6 hi,(um.mp eo).2]
   have lRa:Rd.length<=200:=vc (eY nRa λv hv=>⟨((hRa v).mp hv).1,((hRa v).mp hv).2.1⟩) m2
   have nin:(on:Int)∉Rd:=λy=>by
    have:=((hRa _).mp y).2.2.2
    rw[dr,Ai] at this
    lia
   have ix:ixN (Cs.map V.int).length (on:Int)=some on:=by rw[ue];unfold ixN;simp;lia
   have cne:∀p:Int,p≠on->(os.drop i).count p=(os.drop (i+1)).count p:=λp hp=>by rw[dr,List.count_cons_of_ne (w6 hp)]
   have hon:Cs[on]? = some (((cn E rk' (on:Int)+(os.drop (i+1)).count (on:Int):Nat):Int)+1):=by
    rw[hCa on on1,dr,Ai];congr 1
   generalize hv:cn E rk' (on:Int)+(os.drop (i+1)).count (on:Int)=v at hon
   refine ⟨_,rfl,_,rfl,lc,_,on,_,rfl,rfl,SqL.of eca,(by rw[uF,hon];rfl),_,_,rfl,rfl,lc,_,_,on,rfl,rfl,eca,ix,?_⟩
   rw[show (Cs.map V.int).set on (V.int ((v:Int)+1-1))=(Cs.set on (v:Int)).map V.int by rw[List.map_set,show (v:Int)+1-1=v by lia]]
   have sb:=aD.cg sa fc (.lst ((Cs.set on (v:Int)).map V.int))
   have ecb:upd Ha lc (.lst ((Cs.set on (v:Int)).map V.int)) lc=some (.lst ((Cs.set on (v:Int)).map V.int)):=ag
   have erb:upd Ha lc (.lst ((Cs.set on (v:Int)).map V.int)) lr=some (.lst (Rd.map V.int)):=by rw[ak n1.symm];exact era
   have ekb:upd Ha lc (.lst ((Cs.set on (v:Int)).map V.int)) lk=some (.lst (rk'.map V.int)):=by rw[ak n2.symm];exact eka
   have lCb:(Cs.set on (v:Int)).length=m:=by rw[zX];exact lCa
   have hCb:∀j:Nat,j<m->(Cs.set on (v:Int))[j]? = some ((cn E rk' (j:Int)+(os.drop (i+1)).count (j:Int):Nat):Int):=λj hj=>by
    by_cases c:on=j
    ·subst c
     rw[v8 (by lia),hv]
    ·rw[wK c,hCa j hj,cne j (by lia)]
   generalize Cs.set on (v:Int)=Cb at sb ecb erb ekb lCb hCb
   generalize upd Ha lc (.lst (Cb.map V.int))=Hb at sb ecb erb ekb
   have hz:=hCb on on1
   rw[hv] at hz
   refine ⟨_,rfl,_,rfl,lc,_,_,_,rfl,rfl,SqL.of ecb,dH (v:=V.int (v:Int)) (by rw[uF,hz];rfl),rfl,_,rfl,bU (λz =>?_) λz =>?_⟩
   ·have z':v=0:=by have:=V.int.inj (of_decide_eq_true z);lia
    refine ⟨_,rfl,.inl ⟨rfl,_,SqL.of erb⟩,_,rfl,lr,_,_,rfl,rfl,erb,by rw[ue];exact aW (by lia),?_⟩
    rw[show Rd.map V.int++[V.int (on:Int)]=(Rd++[(on:Int)]).map V.int by rw[uJ];rfl]
    refine ⟨_,Cb,Rd++[(on:Int)],rfl,aD.cg sb fr _,by rw[ak n1];exact ecb,ag,by rw[ak n3.symm];exact ekb,lCb,hCb,?_,λp =>?_⟩
    ·rw[yr]
     exact ⟨nRa,wj.mpr ⟨by simp,w9⟩,λa ha b hb e=>by rw[uw] at hb;subst hb;subst e;exact nin ha⟩
    ·rw[uC,uw]
     by_cases c:p=(on:Int)
     ·rw[c]
      exact ⟨λ_=>⟨o0,o1,no,by rw[hv,z']⟩,λ_ =>.inr rfl⟩
     ·rw[hRa p,cne p c]
      exact ⟨λy=>y.elim id λy=>absurd y c,.inl⟩
   ·refine ⟨_,Cb,Rd,rfl,sb,ecb,erb,ekb,lCb,hCb,nRa,λp =>?_⟩
    by_cases c:p=(on:Int)
    ·rw[c]
     exact ⟨λy=>absurd y nin,λy=>absurd y.2.2.2 (by rw[hv];exact λe=>z (decide_eq_true (by rw[e];rfl)))⟩
    ·rw[hRa p,cne p c]
  ·rintro σ Ha ⟨c6,Cs,Rd,rfl,sa,eca,era,eka,lCa,hCa,nRa,hRa⟩
   rw[ue,List.drop_length] at hCa hRa
   refine ⟨⟨_,_,Cs,Rd,rk',rfl,sa,eca,era,eka,G',lCa,λj hj=>by rw[hCa j hj];rfl,nRa,λp=>(hRa p).trans ⟨λy=>⟨y.1,y.2.1,y.2.2.1,(dR pr).mp y.2.2.2⟩,λy=>⟨y.p0,y.pm,y.nm,(dR pr).mpr y.fr⟩⟩⟩,?_⟩
   rw[l8 eka,l8 ek,ue,ue, <- hrk,uv]
   have:=G'.len
   rw[<- hrk,uv] at this
   show m-(rk.length+1)<m-rk.length
   have:rk.length+1<=m:=this
   lia
 ·rintro σ H' Q1 Q2 im ⟨x,e,k,tk,q⟩
  exact ⟨x,e,k,tk,im _ _ q⟩
end
open PySem L2
def rst (ts:List (Addr×List Int))(S:List (List Int)):List (Addr×List Int):=ts.filter λu => !decide (u.2∈S)
theorem cE {ts:List (Addr×List Int)}{S:List (List Int)}{u:Addr×List Int}:u∈rst ts S↔u∈ts/\u.2∉S:=by unfold rst;rw[yj];simp
theorem jD (ts:List (Addr×List Int))(S:List (List Int)):(rst ts S).length<=ts.length:=z6 _ _
structure Sm (H:Hp)(a:Addr)(ss:List (Addr×List Int)):Prop where
 at':H a=some (.tup (ss.map λu =>.ref u.1))
 tup:Tus H ss
theorem Sm.same {H H':Hp}{a:Addr}{ss:List (Addr×List Int)}(S:Sm H a ss)(s:aD H H'):Sm H' a ss:=⟨s _ _ S.at',S.tup.same s⟩
abbrev qQ:Sp:=λvs H Q _=>∃(r:Addr) (m:Nat) (ts:List (Addr×List Int)),vs=[.ref r]/\Ow H r (m:Int) ts/\m<=200/\ts.length<=250/\∀(H':Hp) (G:List Int),aD H H'->Gr m (ts.map (·.2)) G->Stk m (ts.map (·.2)) G->Q (.bl (decide (G.length=m))) H'
@[irreducible] def qq:Sp:=qQ
theorem gW {vs:List V}{H:Hp}{Q:VK}{E:XK}:qq vs H Q E↔qQ vs H Q E:=by
 delta qq
 exact xk
section
variable  {P:uM}{w:vt}{K:uh}{mg:Str->Option ug}{base:Heap}{f T:Addr}{fd:vD}
theorem lD:aI ["web"] ["web"] (ao fG):=⟨rfl,rfl,rfl,by decide +kernel,rfl,by decide +kernel,by decide +kernel⟩
theorem lE (F:Fun K "has_ranks" "has_ranks" fG f fd)(B:Blt mg)(cFirstRanks:Cal P w K mg base 3 "first_ranks" ["web"] oZ):bF P w K mg base CX0 4 f fd ["web"] qq:=by
 refine F.ok lD (λvs H Q E h =>?_) (λcdv A outer s H vs Q E hr h =>?_)
 ·obtain ⟨_,_,_,rfl,_⟩:=gW.mp h
  rfl
 obtain ⟨r,m,ts,rfl,W,m2,tl,q⟩:=gW.mp h
 refine ⟨_,(@aj _ _ _ (@aX _ _ _ _ (eP dt (ax ck rfl B.b_len jz (@aa _ _ _ _ _ (aB cFirstRanks hr (by decide) rfl (@aa _ _ _ _ _ (pv 0) ae rfl)) ae rfl)) (@aJ _ _ _ _ _ _ _ aT (pv 0) ah (λ_ _=>rfl)) (aS _)))),?_⟩
 refine ⟨_,rfl,eZ.mpr ⟨r,m,ts,rfl,W,m2,tl,λl H1 G s1 hl el gr st =>?_⟩⟩
 obtain ⟨t,e1,e2⟩:=(W.same s1).at'
 refine ⟨l,_,rfl,.inl (SqL.of el),_,rfl,r,_,0,_,rfl,rfl,SqT.of e1,rfl,rfl,?_⟩
 have:=q H1 G s1 gr st
 rw[show decide (V.int ((G.map V.int).length:Int)=V.int (m:Int))=decide (G.length=m) from decide_eq_decide.mpr (by rw[ue];exact ⟨λh=>by have:=V.int.inj h;lia,λh=>by rw[h]⟩)]
 exact this
end
abbrev qR:Sp:=λvs H Q _=>∃(r a:Addr) (m:Nat) (ts ss:List (Addr×List Int)),vs=[.ref r,.ref a]/\Ow H r (m:Int) ts/\Sm H a ss/\ts.length<=250/\∀(b:Addr) (H':Hp),aD H H'->Ow H' b (m:Int) (rst ts (ss.map (·.2)))->Q (.ref b) H'
@[irreducible] def o3:Sp:=qR
theorem e6 {vs:List V}{H:Hp}{Q:VK}{E:XK}:o3 vs H Q E↔qR vs H Q E:=by
 delta o3
 exact xk
section
variable  {P:uM}{w:vt}{K:uh}{mg:Str->Option ug}{base:Heap}{f T:Addr}{fd:vD}
theorem fX:aI ["web", "arrows"] ["web", "arrows"] (ao cz):=⟨rfl,rfl,rfl,by decide +kernel,rfl,by decide +kernel,by decide +kernel⟩
theorem cj:(["arrow", "arrows"]:List Str).Nodup:=by decide +kernel
theorem fY (F:Fun K "without_arrows" "without_arrows" cz f fd)(B:Blt mg):bF P w K mg base CX0 1 f fd ["web", "arrows"] o3:=by
 refine F.ok fX (λvs H Q E h =>?_) (λcdv A outer s H vs Q E hr h =>?_)
 ·obtain ⟨_,_,_,_,_,rfl,_⟩:=e6.mp h
  rfl
 obtain ⟨r,a,m,ts,ss,rfl,W,S,tl,q⟩:=e6.mp h
 refine ⟨_,(@aj _ _ _ (@aX _ _ _ _ (@bE _ _ _ _ _ (@aa _ _ _ _ _ (@aJ _ _ _ _ _ _ _ aT (pv 0) ah (λ_ _=>rfl)) (@aa _ _ _ _ _ (aR aU rfl B.b_tuple cb (@aa _ _ _ _ _ (cY ["arrow", "arrows"] [none,some 1] rfl (@ef _ _ _ _ (@aJ _ _ _ _ _ _ _ aT (pv 0) ah (λ_ _=>rfl))) rfl (λ_ _ _ _ _=>(aH (i:=0) cj rfl (Or.inl rfl))) (λ_ _ _ _ _=>(eC (aE (gL (hu8 hr)) (pv 0) (pv 1) rfl))) (λ_ _ _ _ _=>(pv 0))) ae rfl)) ae rfl) rfl)))),?_⟩
 obtain ⟨t,e1,e2⟩:=W.at'
 refine ⟨_,rfl,r,_,0,_,rfl,rfl,SqT.of e1,rfl,_,rfl,r,_,1,_,rfl,rfl,SqT.of e1,rfl,t,rfl,⟨_,SqT.of e2⟩,dI (xs:=ts.map λu =>.ref u.1) (λi ys H'=>H'=H/\ys=(rst (ts.take i) (ss.map (·.2))).map λu =>.ref u.1) ⟨rfl,rfl⟩ (by rw[ue];exact small (by lia)) (λi ys H' _ k=>by rw[k.1];exact SqT.of e2) ?_ ?_⟩
 ·rintro i x ys H1 hx hy ⟨eH,rfl⟩ R1 R0 r1 r0
  obtain ⟨u,hu,rfl⟩:=iX hx
  have mu:=uS hu
  rw[eH]
  refine ⟨_,rfl,_,rfl,a,u.1,ss,u.2,rfl,rfl,S.at',S.tup,W.tup u mu,_,rfl,bU (λz =>?_) λz =>?_⟩
  ·refine ⟨_,rfl,r1 _ _ ⟨rfl,?_⟩⟩
   unfold rst
   rw[vj,hu,xE,uJ]
   rw[show (some u).toList.filter (λu => !decide (u.2∈ss.map (·.2)))=[u] from xv z]
   rfl
  ·refine r0 _ ⟨rfl,?_⟩
   unfold rst
   rw[vj,hu,xE,uJ]
   rw[show (some u).toList.filter (λu => !decide (u.2∈ss.map (·.2)))=[] from xw z]
   exact (vE _).symm
 ·rintro ys H1 hy ⟨eH,rfl⟩ l hl
  rw[eH] at hl ⊢
  rw[ue,uI (ur _)]
  refine ⟨l,_,rfl,.inl ⟨SqL.of ag,λl3 hl3=>⟨(by show 2<=uL;decide),λb hb =>?_⟩⟩⟩
  have gA:=((af hl (.lst ((rst ts (ss.map (·.2))).map λu =>.ref u.1))).trans (af hl3 (.tup ((rst ts (ss.map (·.2))).map λu =>.ref u.1)))).trans (af hb (.tup [.int (m:Int),.ref l3]))
  exact q b _ gA ⟨⟨l3,ag,(af hb _) _ _ ag⟩,λu hu=>gA _ _ (W.tup u (cE.mp hu).1),λu hu=>W.rng u (cE.mp hu).1⟩
end
abbrev qS:Sp:=λvs H Q _=>∃(r a:Addr) (m:Nat) (ts ss:List (Addr×List Int)),vs=[.ref r,.ref a]/\Ow H r (m:Int) ts/\Sm H a ss/\m<=200/\ts.length<=250/\∀(H':Hp) (G:List Int),aD H H'->Gr m ((rst ts (ss.map (·.2))).map (·.2)) G->Stk m ((rst ts (ss.map (·.2))).map (·.2)) G->Q (.bl (decide (G.length=m))) H'
@[irreducible] def o4:Sp:=qS
theorem e7 {vs:List V}{H:Hp}{Q:VK}{E:XK}:o4 vs H Q E↔qS vs H Q E:=by
 delta o4
 exact xk
section
variable  {P:uM}{w:vt}{K:uh}{mg:Str->Option ug}{base:Heap}{f T:Addr}{fd:vD}
theorem ij:aI ["web", "arrows"] ["web", "arrows"] (ao df):=⟨rfl,rfl,rfl,by decide +kernel,rfl,by decide +kernel,by decide +kernel⟩
theorem ik (F:Fun K "arrows_clear" "arrows_clear" df f fd)(B:Blt mg)(cHasRanks:Cal P w K mg base 4 "has_ranks" ["web"] qq)(cWithoutArrows:Cal P w K mg base 1 "without_arrows" ["web", "arrows"] o3):bF P w K mg base CX0 5 f fd ["web", "arrows"] o4:=by
 refine F.ok ij (λvs H Q E h =>?_) (λcdv A outer s H vs Q E hr h =>?_)
 ·obtain ⟨_,_,_,_,_,rfl,_⟩:=e7.mp h
  rfl
 obtain ⟨r,a,m,ts,ss,rfl,W,S,m2,tl,q⟩:=e7.mp h
 refine ⟨_,(@aj _ _ _ (@aX _ _ _ _ (aB cHasRanks hr (by decide) rfl (@aa _ _ _ _ _ (aB cWithoutArrows hr (by decide) rfl (@aa _ _ _ _ _ (pv 0) (@aa _ _ _ _ _ (pv 1) ae rfl) rfl)) ae rfl)))),?_⟩
 refine ⟨_,rfl,_,rfl,e6.mpr ⟨r,a,m,ts,ss,rfl,W,S,tl,λb H1 s1 W1 =>?_⟩⟩
 exact gW.mpr ⟨b,m,_,rfl,W1,m2,vc (jD _ _) tl,λH2 G s2 gr st=>q H2 G (s1.trans s2) gr st⟩
end
open PySem L2
def flp (S:List (List Int))(t:List Int):List Int:=if t∈S then swp t else t
abbrev qT:Sp:=λvs H Q _=>∃(r a:Addr) (m:Nat) (ts ss:List (Addr×List Int)),vs=[.ref r,.ref a]/\Ow H r (m:Int) ts/\Sm H a ss/\ts.length<=250/\∀(b:Addr) (us:List (Addr×List Int)) (H':Hp),aD H H'->Ow H' b (m:Int) us->(us.map (·.2)).Nodup->us.Pairwise (λa b=>HT.lexLt b.2 a.2=false)->(∀x,x∈us.map (·.2)↔∃t∈ts.map (·.2),x=flp (ss.map (·.2)) t)->Q (.ref b) H'
@[irreducible] def qr:Sp:=qT
theorem gX {vs:List V}{H:Hp}{Q:VK}{E:XK}:qr vs H Q E↔qT vs H Q E:=by
 delta qr
 exact xk
section
variable  {P:uM}{w:vt}{K:uh}{mg:Str->Option ug}{base:Heap}{f T:Addr}{fd:vD}
theorem dZ:aI ["web", "arrows", "turned"] ["web", "arrows"] (ao dh):=⟨rfl,rfl,rfl,by decide +kernel,rfl,by decide +kernel,by decide +kernel⟩
theorem cA:(["arrow", "arrows"]:List Str).Nodup:=by decide +kernel
theorem ip (F:Fun K "turned_about" "turned_about" dh f fd)(B:Blt mg):bF P w K mg base CX0 1 f fd ["web", "arrows"] qr:=by
 refine F.ok dZ (λvs H Q E h =>?_) (λcdv A outer s H vs Q E hr h =>?_)
 ·obtain ⟨_,_,_,_,_,rfl,_⟩:=gX.mp h
  rfl
 obtain ⟨r,a,m,ts,ss,rfl,W,S,tl,q⟩:=gX.mp h
 refine ⟨_,(@ai _ _ _ _ _ (bV (i:=2) ["arrow", "arrows"] [none,some 1] rfl dZ.nd rfl rfl (@ef _ _ _ _ (@aJ _ _ _ _ _ _ _ aT (pv 0) ah (λ_ _=>rfl))) rfl (λ_ _ _ _ _=>(aH (i:=0) cA rfl (Or.inl rfl))) (λ_ _ _ _ _=>fz) (λ_ _ _ _ _=>(nF (aE (qc (hu8 hr)) (pv 0) (pv 1) rfl) (@bE _ _ _ _ _ (@aa _ _ _ _ _ (@aJ _ _ _ _ _ _ _ (fZ (K:=K)) (pv 0) ah (λ_ _=>rfl)) (@aa _ _ _ _ _ (@aJ _ _ _ _ _ _ _ (fZ (K:=K)) (pv 0) ah (λ_ _=>rfl)) ae rfl) rfl)) (pv 0))))
  (@aj _ _ _ (@aX _ _ _ _ (@bE _ _ _ _ _ (@aa _ _ _ _ _ (@aJ _ _ _ _ _ _ _ aT (pv 0) ah (λ_ _=>rfl)) (@aa _ _ _ _ _ (aR aU rfl B.b_tuple cb (@aa _ _ _ _ _ (ax (dy (w:=w) rfl hr.hd) rfl B.b_sorted cR (@aa _ _ _ _ _ (aR (gJ (w:=w) rfl hr.hd hr.units) rfl B.b_set oW (@aa _ _ _ _ _ (pv 2) ae rfl)) ae rfl)) ae rfl)) ae rfl) rfl))))),?_⟩
 obtain ⟨t,e1,e2⟩:=W.at'
 let W0:Nat->List V->Hp->Prop:=λi ys H'=>aD H H'/\∃us:List (Addr×List Int),ys=us.map (λu =>.ref u.1)/\Tus H' us/\us.map (·.2)=((ts.map (·.2)).take i).map (flp (ss.map (·.2)))
 refine ⟨_,rfl,r,_,1,_,rfl,rfl,SqT.of e1,rfl,t,rfl,⟨_,SqT.of e2⟩,dI (xs:=ts.map λu =>.ref u.1) W0 ⟨aD.refl _,[],rfl,λu hu=>(by cases hu),rfl⟩ (by rw[ue];exact small (by lia)) (λi ys H' _ k=>SqT.of (k.1 _ _ e2)) ?_ ?_⟩
 ·rintro i x ys H1 hx hy ⟨s1,us,rfl,tu,eu⟩ R1 R0 r1 r0
  obtain ⟨u,hu,rfl⟩:=iX hx
  have mu:=uS hu
  obtain ⟨x,y,e3,_⟩:=W.rng u mu
  have hu1:=s1 _ _ (W.tup u mu)
  have S1:=S.same s1
  have eq:∀v:Addr×List Int,v.2=flp (ss.map (·.2)) u.2->(us++[v]).map (·.2)=((ts.map (·.2)).take (i+1)).map (flp (ss.map (·.2))):=λv hv=>by
   rw[uJ,eu,vj,uF,hu,uJ]
   show _++[v.2]=_++[flp _ u.2]
   rw[hv]
  refine fw ⟨_,rfl,_,rfl,a,u.1,ss,u.2,rfl,rfl,S1.at',S1.tup,hu1,_,rfl,bU (λz =>?_) λz =>?_⟩
  ·have z:=of_decide_eq_true z
   rw[e3] at hu1
   refine ⟨_,rfl,u.1,_,1,_,rfl,rfl,SqT.of hu1,rfl,_,rfl,u.1,_,0,_,rfl,rfl,SqT.of hu1,rfl,(by show 2<=uL;decide),λa ha=>r1 _ _ ⟨s1.trans (af ha _),us++[(a,[y,x])],by rw[uJ];rfl,Tus.snoc (tu.same (af ha _)) (u:=(a,[y,x])) ag,eq _ ?_⟩⟩
   unfold flp
   rw[if_pos z,e3];rfl
  ·have z:u.2∉ss.map (·.2):=λy=>z (decide_eq_true y)
   refine ⟨_,rfl,r1 _ _ ⟨s1,us++[u],by rw[uJ];rfl,Tus.snoc tu (u:=u) hu1,eq _ ?_⟩⟩
   unfold flp
   rw[if_neg z]
 ·rintro ys H1 hy ⟨s1,us,rfl,tu,eu⟩ l hl
  rw[ue,uI (by rw[ue];exact ur _)] at eu
  have lu:us.length=ts.length:=by have:=congrArg List.length eu;simpa using this
  have rg:Rg (m:Int) us:=λu hu=>by
   have:u.2∈us.map (·.2):=uH.mpr ⟨u,hu,rfl⟩
   rw[eu] at this
   obtain ⟨v,hv,ev⟩:=uH.mp this
   obtain ⟨w,hw,rfl⟩:=uH.mp hv
   obtain ⟨x,y,e,x0,x1,y0,y1⟩:=W.rng w hw
   unfold flp at ev
   split at ev
   ·exact ⟨y,x,by rw[<- ev,e];rfl,y0,y1,x0,x1⟩
   ·exact ⟨x,y,by rw[<- ev,e],x0,x1,y0,y1⟩
  have g5:=af hl (.lst (us.map λu =>.ref u.1))
  have el:upd H1 l (.lst (us.map λu =>.ref u.1)) l=some (.lst (us.map λu =>.ref u.1)):=ag
  have s5:=s1.trans g5
  have tu5:=tu.same g5
  generalize upd H1 l (.lst (us.map λu =>.ref u.1))=H5 at g5 el s5 tu5
  refine ⟨_,rfl,r,_,0,_,rfl,rfl,SqT.of (s5 _ _ e1),rfl,_,rfl,l,us,rfl,.inl (SqL.of el),λu hu=>SqT.of (tu5 u hu),by lia,λsa ws hna mw ndw cov hlw =>?_⟩
  have ga:=af hna (fD w sa (ws.map λt =>.ref t.1))
  refine ⟨sa,ws,rfl,ag,λu hu=>⟨SqT.of (ga _ _ (tu5 u (mw u hu))),λz =>?_⟩,by lia,λl2 out hl2 pm so =>?_⟩
  ·obtain ⟨x,y,e,_⟩:=rg u (mw u hu)
   rw[z] at e;cases e
  refine ⟨l2,_,rfl,.inl ⟨SqL.of ag,λl3 hl3=>⟨(by show 2<=uL;decide),λb hb =>?_⟩⟩⟩
  have gA:=((ga.trans (af hl2 (.lst (out.map λt =>.ref t.1)))).trans (af hl3 (.tup (out.map λt =>.ref t.1)))).trans (af hb (.tup [.int (m:Int),.ref l3]))
  refine q b out _ (s5.trans gA) ⟨⟨l3,ag,(af hb _) _ _ ag⟩,λu hu=>gA _ _ (tu5 u (mw u (pm.mem_iff.mp hu))),λu hu=>rg u (mw u (pm.mem_iff.mp hu))⟩ (((pm.map (·.2)).nodup_iff).mpr ndw) so λx =>?_
  rw[(pm.map (·.2)).mem_iff]
  constructor
  ·intro hx
   obtain ⟨u,hu,rfl⟩:=uH.mp hx
   have:u.2∈us.map (·.2):=uH.mpr ⟨u,mw u hu,rfl⟩
   rw[eu] at this
   obtain ⟨t,ht,e⟩:=uH.mp this
   exact ⟨t,ht,e.symm⟩
  ·rintro ⟨t,ht,rfl⟩
   have:flp (ss.map (·.2)) t∈us.map (·.2):=by rw[eu];exact uH.mpr ⟨t,ht,rfl⟩
   obtain ⟨u,hu,e⟩:=uH.mp this
   rw[<- e]
   exact cov u hu
end
open PySem L2
@[irreducible] def jE (K:uh):Sp:=λvs H Q _=>∃(a:Addr) (ns:List Int) (k:Int),vs=[.ref a,.int k]/\SqL K H a (ns.map V.int)/\0<=k/\k<100/\∀(x y:Int) (p:Addr),H p=none->Q (.ref p) (upd H p (.lst ([x,y].map V.int)))
theorem eG {K:uh}{vs:List V}{H:Hp}{Q:VK}{E:XK}:jE K vs H Q E↔∃(a:Addr) (ns:List Int) (k:Int),vs=[.ref a,.int k]/\SqL K H a (ns.map V.int)/\0<=k/\k<100/\∀(x y:Int) (p:Addr),H p=none->Q (.ref p) (upd H p (.lst ([x,y].map V.int))):=by
 delta jE
 exact xk
abbrev mf:Sp:=λvs H Q _=>∃(p:Addr) (m:Int),vs=[.ref p,.int m]/\Pt 2 H p/\0<m/\Wd m/\∀(r:Int) (H':Hp),0<=r->r<m->Bu 2 p H H'->Q (.int r) H'
@[irreducible] def dC:Sp:=mf
theorem aA {vs:List V}{H:Hp}{Q:VK}{E:XK}:dC vs H Q E↔mf vs H Q E:=by
 delta dC
 exact xk
theorem aQ {i:Int}(h0 : -100000<=i)(h1:i<=100000):Wd i:=by
 unfold Wd
 have:i.natAbs<=100000:=by lia
 exact yT this (by decide +kernel)
theorem w64:Wd ((10:Int) ^ (64:Int).toNat):=by unfold Wd;decide +kernel
theorem w128:Wd ((10:Int) ^ (64:Int).toNat*(10:Int) ^ (64:Int).toNat):=by unfold Wd;decide +kernel
theorem w192:Wd ((10:Int) ^ (64:Int).toNat*(10:Int) ^ (64:Int).toNat*(10:Int) ^ (64:Int).toNat):=by unfold Wd;decide +kernel
theorem p256:(0:Int)<(10:Int) ^ (64:Int).toNat*(10:Int) ^ (64:Int).toNat*(10:Int) ^ (64:Int).toNat*(10:Int) ^ (64:Int).toNat:=by decide +kernel
section
variable  {P:uM}{w:vt}{K:uh}{mg:Str->Option ug}{base:Heap}{f T:Addr}{fd:vD}
theorem fb:aI ["script", "k", "cell", "digits"] ["script", "k"] (ao gQ):=⟨rfl,rfl,rfl,by decide +kernel,rfl,by decide +kernel,by decide +kernel⟩
theorem qs (F:Fun K "_law_deal" "_law_deal" gQ f fd)(B:Blt mg):bF P w K mg base CX0 1 f fd ["script", "k"] (jE K):=by
 refine F.ok fb (λvs H Q E h =>?_) (λcdv A outer s H vs Q E hr h =>?_)
 ·obtain ⟨_,_,_,rfl,_⟩:=eG.mp h
  rfl
 obtain ⟨a,ns,k,rfl,hS,h0,h1,q⟩:=eG.mp h
 have TD:∃t,PSs (gp CX0 P w K mg base ["script", "k", "cell", "digits"] "_law_deal" (ao gQ) f cdv A outer s H E).nox ((bI gQ).drop 2) t/\∀(c:Int) (c3:Option V),t { nx:=λ_ H'=>Q .non H',rt:=Q } [some (.ref a),some (.int k),some (.int c),c3] H:=by
  refine ⟨_,(@ai _ _ _ _ _ (@ay _ _ 3 _ _ _ _ fb.nd rfl (Or.inl rfl) ah rfl (by first | exact .inl rfl | exact .inr rfl | assumption))
  (@ai _ _ _ _ _ (@bR _ _ _ _ _ _ _ _ (aE tx (pv 2) (@aP _ _ _ _ _ _ _ _ fu ah ah) (aS _)) (@aj _ _ _ (@ay _ _ 3 _ _ _ _ fb.nd rfl (Or.inl rfl) (@aP _ _ _ _ _ _ _ _ nT (pv 2) (@aP _ _ _ _ _ _ _ _ fu ah ah)) rfl (by first | exact .inl rfl | exact .inr rfl | assumption))) ba)
  (@aj _ _ _ (@aX _ _ _ _ (@cv _ _ _ _ (@aa _ _ _ _ _ (pv 3) (@aa _ _ _ _ _ (@aP _ _ _ _ _ _ _ _ cU (@aP _ _ _ _ _ _ _ _ gm (@aP _ _ _ _ _ _ _ _ cT (@aP _ _ _ _ _ _ _ _ cT (@aP _ _ _ _ _ _ _ _ cU (pv 2) ah) (@aP _ _ _ _ _ _ _ _ gm ah (pv 1))) ah) ah) ah) ae rfl) rfl)))))),λc c3 =>?_⟩
  have last:∀dg:Int,∃v,some (some (V.int dg))=some (some v)/\True:=λdg=>⟨_,rfl,trivial⟩
  refine ⟨_,rfl,_,_,rfl,rfl,⟨by decide,by decide,by decide⟩,_,_,rfl,rfl,_,rfl,bU (λz =>?_) (λz =>?_)⟩
  ·refine ⟨_,rfl,_,_,rfl,rfl,⟨by decide,by decide,by decide⟩,_,_,rfl,rfl,?_⟩
   refine ⟨_,rfl,_,rfl,_,_,rfl,rfl,(by show (0:Int)<_;decide),_,rfl,_,_,rfl,rfl,.inl ⟨by decide,by decide⟩,_,_,rfl,rfl,_,_,rfl,rfl,_,_,rfl,rfl,.inr ⟨by decide,by decide⟩,_,_,rfl,rfl,(by show (0:Int)<_;decide),(by show 2<=uL;decide),λp hp=>q _ _ p hp⟩
  ·refine ⟨_,rfl,_,rfl,_,_,rfl,rfl,(by show (0:Int)<_;decide),_,rfl,_,_,rfl,rfl,.inl ⟨by decide,by decide⟩,_,_,rfl,rfl,_,_,rfl,rfl,_,_,rfl,rfl,.inr ⟨by decide,by decide⟩,_,_,rfl,rfl,(by show (0:Int)<_;decide),(by show 2<=uL;decide),λp hp=>q _ _ p hp⟩
 obtain ⟨tD,pD,gD⟩:=TD
 refine ⟨_,(@ai _ _ _ _ _ (@ay _ _ 2 _ _ _ _ fb.nd rfl (Or.inl rfl) ah rfl (by first | exact .inl rfl | exact .inr rfl | assumption))
  (@ai _ _ _ _ _ (@bR _ _ _ _ _ _ _ _ (aE jJ (pv 1) (ax ck rfl B.b_len jz (@aa _ _ _ _ _ (pv 0) ae rfl)) (aS _)) (@aj _ _ _ (@ay _ _ 2 _ _ _ _ fb.nd rfl (Or.inl rfl) (@aP _ _ _ _ _ _ _ _ cU (@aJ _ _ _ _ _ _ _ bD (pv 0) (pv 1) (λ_ _=>rfl)) (@aP _ _ _ _ _ _ _ _ jv (@aP _ _ _ _ _ _ _ _ jv (@aP _ _ _ _ _ _ _ _ jv (@aP _ _ _ _ _ _ _ _ fu ah ah) (@aP _ _ _ _ _ _ _ _ fu ah ah)) (@aP _ _ _ _ _ _ _ _ fu ah ah)) (@aP _ _ _ _ _ _ _ _ fu ah ah))) rfl (by first | exact .inl rfl | exact .inr rfl | assumption))) ba)
  pD)),?_⟩
 refine ⟨_,rfl,_,rfl,a,_,rfl,.inl hS,_,_,rfl,rfl,_,rfl,bU (λc =>?_) (λc=>gD _ _)⟩
 have c':k<((ns.map V.int).length:Int):=of_decide_eq_true c
 rw[ue] at c'
 obtain ⟨v,_,hat⟩:=sv h0 c'
 exact ⟨_,rfl,_,rfl,a,_,k,_,rfl,rfl,hS,hat,_,_,rfl,rfl,⟨by decide,by decide,by decide⟩,_,_,rfl,rfl,⟨by decide,by decide,by decide⟩,_,_,rfl,rfl,⟨w64,w64⟩,_,_,rfl,rfl,⟨by decide,by decide,by decide⟩,_,_,rfl,rfl,⟨w128,w64⟩,
  _,_,rfl,rfl,⟨by decide,by decide,by decide⟩,_,_,rfl,rfl,⟨w192,w64⟩,_,_,rfl,rfl,p256,gD _ _⟩
end
section
variable  {P:uM}{w:vt}{K:uh}{mg:Str->Option ug}{base:Heap}{f T:Addr}{fd:vD}
theorem mh:aI ["pot", "many", "found"] ["pot", "many"] (ao lb):=⟨rfl,rfl,rfl,by decide +kernel,rfl,by decide +kernel,by decide +kernel⟩
theorem qu (F:Fun K "_law_pick" "_law_pick" lb f fd)(B:Blt mg):bF P w K mg base CX0 1 f fd ["pot", "many"] dC:=by
 refine F.ok mh (λvs H Q E h =>?_) (λcdv A outer s H vs Q E hr h =>?_)
 ·obtain ⟨_,_,rfl,_⟩:=aA.mp h
  rfl
 obtain ⟨p,m,rfl,hp,h0,h1,q⟩:=aA.mp h
 refine ⟨_,(@ai _ _ _ _ _ (@bR _ _ _ _ _ _ _ _ (aE nV (@aJ _ _ _ _ _ _ _ bD (pv 0) ah (λ_ _=>rfl)) ah (aS _)) (@ai _ _ _ _ _ (@ay _ _ 2 _ _ _ _ mh.nd rfl (Or.inl rfl) (@aP _ _ _ _ _ _ _ _ cU (@aJ _ _ _ _ _ _ _ bD (pv 0) ah (λ_ _=>rfl)) (pv 1)) rfl (by first | exact .inl rfl | exact .inr rfl | assumption))
   (@ai _ _ _ _ _ (@nK _ _ _ _ _ _ (@aP _ _ _ _ _ _ _ _ oK (@aJ _ _ _ _ _ _ _ bD (pv 0) ah (λ_ _=>rfl)) (pv 1)) (nJ (pv 0) ah set_list) rfl rfl rfl)
   (@aj _ _ _ (@aX _ _ _ _ (pv 2))))) ba)
  (@ai _ _ _ _ _ (@nK _ _ _ _ _ _ (@aP _ _ _ _ _ _ _ _ cU (@aP _ _ _ _ _ _ _ _ cT (@aP _ _ _ _ _ _ _ _ gm (@aJ _ _ _ _ _ _ _ bD (pv 0) ah (λ_ _=>rfl)) ah) ah) ah) (nJ (pv 0) ah set_list) rfl rfl rfl)
  (@aj _ _ _ (@aX _ _ _ _ (@aP _ _ _ _ _ _ _ _ cU (@aP _ _ _ _ _ _ _ _ pq (@aP _ _ _ _ _ _ _ _ cU (@aP _ _ _ _ _ _ _ _ gm (@aJ _ _ _ _ _ _ _ bD (pv 0) ah (λ_ _=>rfl)) (@aJ _ _ _ _ _ _ _ bD (pv 0) ah (λ_ _=>rfl))) ah) ah) (pv 1)))))),?_⟩
 have bt:=Bu.refl hp
 obtain ⟨xs,lx,ep⟩:=hp
 match xs,lx with
 | [x,y],_ =>
  refine ⟨_,rfl,p,_,0,_,rfl,rfl,SqL.of ep,rfl,_,_,rfl,rfl,_,rfl,bU (λc =>?_) (λc =>?_)⟩
  ·refine ⟨_,rfl,p,_,0,_,rfl,rfl,SqL.of ep,rfl,_,rfl,_,_,rfl,rfl,h0,?_⟩
   refine ⟨_,rfl,p,_,0,_,rfl,rfl,SqL.of ep,rfl,_,rfl,_,_,rfl,rfl,⟨h0,h1⟩,_,rfl,p,_,0,0,rfl,rfl,ep,rfl,?_⟩
   refine ⟨_,rfl,?_⟩
   exact q _ _ (xH _ (by lia)) (wZ _ h0) (bt.put (ys:=[x/m,y]) rfl)
  ·refine ⟨_,rfl,p,_,1,_,rfl,rfl,SqL.of ep,rfl,_,_,rfl,rfl,.inr ⟨by decide,by decide⟩,_,_,rfl,rfl,_,_,rfl,rfl,(by show (0:Int)<_;decide),_,rfl,p,_,1,1,rfl,rfl,ep,rfl,?_⟩
   dsimp only
   have b1:=xH (y*69621+12345) (b:=2147483647) (by decide)
   have b2:=wZ (y*69621+12345) (b:=2147483647) (by decide)
   generalize (y*69621+12345)%2147483647=z at b1 b2 ⊢
   have e:((([x,y]:List Int).map V.int).set 1 (V.int z))=([x,z]:List Int).map V.int:=rfl
   rw[e]
   refine ⟨_,rfl,p,_,1,_,rfl,rfl,SqL.of ag,rfl,_,rfl,p,_,1,_,rfl,rfl,SqL.of ag,rfl,_,_,rfl,rfl,.inl ⟨by lia,by lia⟩,_,_,rfl,rfl,(by show (0:Int)<_;decide),_,_,rfl,rfl,⟨by decide,by decide⟩,_,rfl,_,_,rfl,rfl,h0,?_⟩
   exact q _ _ (xH _ (by lia)) (wZ _ h0) (bt.put (ys:=[x,z]) rfl)
end
theorem Od.ins {k d:Nat}{os:List Int}(O:Od (k:Int) os)(hd:d<=os.length):Od ((k+1:Nat):Int) (os.take d++(k:Int) :: os.drop d):=by
 have hp:(os.take d++(k:Int) :: os.drop d).Perm ((k:Int) :: os):=by
  refine zL.trans ?_
  rw[wg]
 have hk:(k:Int)∉os:=λz=>by have:=(O.mem k).mp z;lia
 refine ⟨hp.nodup_iff.mpr (wj.mpr ⟨hk,O.nd⟩),λv =>?_,?_⟩
 ·rw[hp.mem_iff,vn,O.mem]
  lia
 ·rw[hp.length_eq,vh]
  have:=O.len
  lia
theorem Od.nil:Od ((0:Nat):Int) []:=⟨w9,λv=>⟨λz=>(by cases z),λz=>(by lia)⟩,rfl⟩
theorem fe {n:Nat}{p la:Addr}{H H1:Hp}(hb:Bu n p H H1)(h:H1 la=none):H la=none:=by
 cases e:H la with
 | none=>rfl
 | some o =>
  by_cases z:la=p
  ·subst z
   obtain ⟨xs,_,e2⟩:=hb.pot
   rw[h] at e2
   cases e2
  ·rw[hb.st la o z e] at h
   cases h
open PySem L2
theorem t9 {i:Int}(h0:0<=i)(h1:i<8):∃v:Int,atI [V.int 1,V.int 5,V.int 7,V.int 11,V.int 13,V.int 17,V.int 19,V.int 23] i=some (.int v)/\0<=v/\v<=23:=by
 rcases (show i=0\/i=1\/i=2\/i=3\/i=4\/i=5\/i=6\/i=7 by lia) with z | z | z | z | z | z | z | z <;> subst z <;> exact ⟨_,rfl,by decide,by decide⟩
abbrev mi:Sp:=λvs H Q _=>∃(p:Addr),vs=[.ref p]/\Pt 2 H p/\∀(b:Addr) (ts:List (Addr×List Int)) (H':Hp),Bu 2 p H H'->Ow H' b ((24:Nat):Int) ts->ts.length<=200->Q (.ref b) H'
@[irreducible] def jF:Sp:=mi
theorem eI {vs:List V}{H:Hp}{Q:VK}{E:XK}:jF vs H Q E↔mi vs H Q E:=by
 delta jF
 exact xk
abbrev iY:Sp:=λvs H Q _=>∃(p:Addr) (mo:Int),vs=[.ref p,.int mo]/\Pt 2 H p/\0<=mo/\mo<=10/\∀(b:Addr) (m:Nat) (ts:List (Addr×List Int)) (H':Hp),Bu 2 p H H'->Ow H' b (m:Int) ts->m<=10->ts.length<=200->Q (.ref b) H'
@[irreducible] def fg:Sp:=iY
theorem dj {vs:List V}{H:Hp}{Q:VK}{E:XK}:fg vs H Q E↔iY vs H Q E:=by
 delta fg
 exact xk
section
variable  {P:uM}{w:vt}{K:uh}{mg:Str->Option ug}{base:Heap}{f T:Addr}{fd:vD}
theorem gg:aI ["pot", "begin", "by", "arrows"] ["pot"] (ao ly):=⟨rfl,rfl,rfl,by decide +kernel,rfl,by decide +kernel,by decide +kernel⟩
theorem eJ:(["k", "begin", "by"]:List Str).Nodup:=by decide +kernel
theorem qv (F:Fun K "_law_full" "_law_full" ly f fd)(B:Blt mg)(cLPick:Cal P w K mg base 1 "_law_pick" ["pot", "many"] dC):bF P w K mg base CX0 2 f fd ["pot"] jF:=by
 refine F.ok gg (λvs H Q E h =>?_) (λcdv A outer s H vs Q E hr h =>?_)
 ·obtain ⟨_,rfl,_⟩:=eI.mp h
  rfl
 obtain ⟨p,rfl,hp,q⟩:=eI.mp h
 refine ⟨_,(@ai _ _ _ _ _ (@ay _ _ 1 _ _ _ _ gg.nd rfl (Or.inr rfl) (aB cLPick hr (by decide) rfl (@aa _ _ _ _ _ (pv 0) (@aa _ _ _ _ _ ah ae rfl) rfl)) rfl (by first | exact .inl rfl | exact .inr rfl | assumption))
  (@ai _ _ _ _ _ (@ay _ _ 2 _ _ _ _ gg.nd rfl (Or.inr rfl) (@aJ _ _ _ _ _ _ _ aT (@bE _ _ _ _ _ (@aa _ _ _ _ _ ah (@aa _ _ _ _ _ ah (@aa _ _ _ _ _ ah (@aa _ _ _ _ _ ah (@aa _ _ _ _ _ ah (@aa _ _ _ _ _ ah (@aa _ _ _ _ _ ah (@aa _ _ _ _ _ ah ae rfl) rfl) rfl) rfl) rfl) rfl) rfl) rfl)) (aB cLPick hr (by decide) rfl (@aa _ _ _ _ _ (pv 0) (@aa _ _ _ _ _ ah ae rfl) rfl)) (λ_ _=>rfl)) rfl (by first | exact .inl rfl | exact .inr rfl | assumption))
  (@ai _ _ _ _ _ (bV (i:=3) ["k", "begin", "by"] [none,some 1,some 2] rfl gg.nd rfl rfl (aY rfl B.b_range (@aa _ _ _ _ _ ah ae rfl)) rfl (λ_ _ _ _ _=>(aH (i:=0) eJ rfl (Or.inl rfl))) (λ_ _ _ _ _=>fz) (λ_ _ _ _ _=>(ax jh rfl B.b_divmod nq (@aa _ _ _ _ _ (@aP _ _ _ _ _ _ _ _ cU (@aP _ _ _ _ _ _ _ _ cT (pv 1) (@aP _ _ _ _ _ _ _ _ gm (pv 2) (pv 0))) ah) (@aa _ _ _ _ _ ah ae rfl) rfl))))
  (@aj _ _ _ (@aX _ _ _ _ (@bE _ _ _ _ _ (@aa _ _ _ _ _ ah (@aa _ _ _ _ _ (aR aU rfl B.b_tuple cb (@aa _ _ _ _ _ (ax da rfl B.b_sorted cR (@aa _ _ _ _ _ (pv 3) ae rfl)) ae rfl)) ae rfl) rfl))))))),?_⟩
 refine ⟨_,rfl,aA.mpr ⟨p,576,rfl,hp,by decide,aQ (by decide) (by decide),λbe H1 b0 b1 u1 =>?_⟩⟩
 refine ⟨(by show 8<=uL;decide),λt ht =>?_⟩
 have g2:=af ht (.tup [.int 1,.int 5,.int 7,.int 11,.int 13,.int 17,.int 19,.int 23])
 have et:upd H1 t (.tup [.int 1,.int 5,.int 7,.int 11,.int 13,.int 17,.int 19,.int 23]) t=some (.tup [.int 1,.int 5,.int 7,.int 11,.int 13,.int 17,.int 19,.int 23]):=ag
 have u2:=u1.same g2
 refine ⟨_,rfl,aA.mpr ⟨p,8,rfl,u2.pot,by decide,aQ (by decide) (by decide),λd8 H3 d0 d1 u3 =>?_⟩⟩
 obtain ⟨by',eby,v0,v1⟩:=t9 d0 d1
 refine ⟨t,_,d8,_,rfl,rfl,SqT.of (u3.tup u2.pot et),eby,?_⟩
 have uA:=u2.trans u3
 let W0:Nat->List V->Hp->Prop:=λi ys H'=>aD H3 H'/\∃us:List (Addr×List Int),ys=us.map (λu =>.ref u.1)/\Tus H' us/\us.length=i/\Rg 24 us
 refine ⟨200,rfl,by decide,by decide,dv (n:=200) W0 ⟨aD.refl _,[],rfl,λu hu=>(by cases hu),rfl,λu hu=>(by cases hu)⟩ (small (by decide)) ?_ ?_⟩
 ·rintro i ys H4 hi hy ⟨s4,us,rfl,tu,lu,rg⟩ R1 R0 r1 r0
  refine fw ⟨_,rfl,_,rfl,_,rfl,_,_,rfl,rfl,.inl ⟨by lia,by lia⟩,_,_,rfl,rfl,_,_,rfl,rfl,(by show (0:Int)<_;decide),_,_,rfl,⟨by decide,by decide⟩,λa ha=>r1 _ _ ⟨s4.trans (af ha _),us++[(a,_)],?_,Tus.snoc (tu.same (af ha _)) (u:=(a,[_,_])) ag,by rw[uv,lu];rfl,?_⟩⟩
  ·rw[uJ];rfl
  ·have c1:=xH (be+by'*(0+(i:Int))) (b:=576) (by decide)
   have c2:=wZ (be+by'*(0+(i:Int))) (b:=576) (by decide)
   exact rg.snoc (by lia) (by lia) (by lia) (by lia)
 ·rintro ys H4 hy ⟨s4,us,rfl,tu,lu,rg⟩ l hl
  have g5:=af hl (.lst (us.map λu =>.ref u.1))
  have el:upd H4 l (.lst (us.map λu =>.ref u.1)) l=some (.lst (us.map λu =>.ref u.1)):=ag
  refine ⟨_,rfl,l,us,rfl,.inl (SqL.of el),λt ht=>⟨SqT.of ((tu.same g5) t ht),?_⟩,λl2 out hl2 pm so =>?_⟩
  ·obtain ⟨x,y,e,_⟩:=rg t ht
   rw[e]
   intro z
   cases z
  refine ⟨l2,_,rfl,.inl ⟨SqL.of ag,λl3 hl3=>⟨(by show 2<=uL;decide),λb hb =>?_⟩⟩⟩
  have gA:=((g5.trans (af hl2 (.lst (out.map λt =>.ref t.1)))).trans (af hl3 (.tup (out.map λt =>.ref t.1)))).trans (af hb (.tup [.int 24,.ref l3]))
  refine q b out _ ((uA.same s4).same gA) ⟨⟨l3,ag,(af hb _) _ _ ag⟩,λu hu=>gA _ _ (tu u (pm.mem_iff.mp hu)),λu hu=>rg u (pm.mem_iff.mp hu)⟩ (by rw[pm.length_eq,lu];exact ur _)
end
section
variable  {P:uM}{w:vt}{K:uh}{mg:Str->Option ug}{base:Heap}{f T:Addr}{fd:vD}
theorem bz:aI ["pot", "most", "many", "share", "loops", "order", "place", "arrows", "a", "b", "rises"] ["pot", "most"] (ao gR):=⟨rfl,rfl,rfl,by decide +kernel,rfl,by decide +kernel,by decide +kernel⟩
theorem nA (F:Fun K "_law_oneway" "_law_oneway" gR f fd)(B:Blt mg)(cLPick:Cal P w K mg base 1 "_law_pick" ["pot", "many"] dC):bF P w K mg base CX0 2 f fd ["pot", "most"] fg:=by
 refine F.ok bz (λvs H Q E h =>?_) (λcdv A outer s H vs Q E hr h =>?_)
 ·obtain ⟨_,_,rfl,_⟩:=dj.mp h
  rfl
 obtain ⟨p,mo,rfl,hp,mo0,mo1,q⟩:=dj.mp h
 refine ⟨_,(@ai _ _ _ _ _ (@ay _ _ 2 _ _ _ _ bz.nd rfl (Or.inl rfl) (aB cLPick hr (by decide) rfl (@aa _ _ _ _ _ (pv 0) (@aa _ _ _ _ _ (@aP _ _ _ _ _ _ _ _ cT (pv 1) ah) ae rfl) rfl)) rfl (by first | exact .inl rfl | exact .inr rfl | assumption))
  (@ai _ _ _ _ _ (@ay _ _ 3 _ _ _ _ bz.nd rfl (Or.inl rfl) (aB cLPick hr (by decide) rfl (@aa _ _ _ _ _ (pv 0) (@aa _ _ _ _ _ ah ae rfl) rfl)) rfl (by first | exact .inl rfl | exact .inr rfl | assumption))
  (@ai _ _ _ _ _ (@ay _ _ 4 _ _ _ _ bz.nd rfl (Or.inl rfl) (aB cLPick hr (by decide) rfl (@aa _ _ _ _ _ (pv 0) (@aa _ _ _ _ _ ah ae rfl) rfl)) rfl (by first | exact .inl rfl | exact .inr rfl | assumption))
  (@ai _ _ _ _ _ (@ay _ _ 5 _ _ _ _ bz.nd rfl (Or.inl rfl) (@cv _ _ _ _ ae) rfl (by first | exact .inl rfl | exact .inr rfl | assumption))
  (@ai _ _ _ _ _ (@cc _ _ _ _ _ _ _ _ vO rfl (aY rfl B.b_range (@aa _ _ _ _ _ (pv 2) ae rfl)) (aH (i:=6) bz.nd rfl (Or.inl rfl))
   (@aj _ _ _ (bC (bS uV zt zu iH (pv 5) (@aa _ _ _ _ _ (aB cLPick hr (by decide) rfl (@aa _ _ _ _ _ (pv 0) (@aa _ _ _ _ _ (@aP _ _ _ _ _ _ _ _ cT (pv 6) ah) ae rfl) rfl)) (@aa _ _ _ _ _ (pv 6) ae rfl) rfl)))) (λ_=>rfl))
  (@ai _ _ _ _ _ (@ay _ _ 7 _ _ _ _ bz.nd rfl (Or.inl rfl) (@cv _ _ _ _ ae) rfl (by first | exact .inl rfl | exact .inr rfl | assumption))
  (@ai _ _ _ _ _ (@cc _ _ _ _ _ _ _ _ vO rfl (aY rfl B.b_range (@aa _ _ _ _ _ (pv 2) ae rfl)) (aH (i:=8) bz.nd rfl (Or.inl rfl))
   (@aj _ _ _ (@cc _ _ _ _ _ _ _ _ vO rfl (aY rfl B.b_range (@aa _ _ _ _ _ (pv 2) ae rfl)) (aH (i:=9) bz.nd rfl (Or.inl rfl))
    (@ai _ _ _ _ _ (@ay _ _ 10 _ _ _ _ bz.nd rfl (Or.inl rfl) (eP jJ (bS uV wO xx dQ (pv 5) (@aa _ _ _ _ _ (pv 8) ae rfl)) (bS uV wO xx dQ (pv 5) (@aa _ _ _ _ _ (pv 9) ae rfl)) (aS _)) rfl (by first | exact .inl rfl | exact .inr rfl | assumption))
    (@aj _ _ _ (@bR _ _ _ _ _ _ _ _ (aE dt (pv 8) (pv 9) (aS _)) (@aj _ _ _ (@bR _ _ _ _ _ _ _ _ (PW.pt (ft (aE dt (pv 4) ah (aS _)) (dF (aE dt (aB cLPick hr (by decide) rfl (@aa _ _ _ _ _ (pv 0) (@aa _ _ _ _ _ ah ae rfl) rfl)) ah (aS _))))) (@aj _ _ _ (bC (bS uV vA vB bH (pv 7) (@aa _ _ _ _ _ (@bE _ _ _ _ _ (@aa _ _ _ _ _ (pv 8) (@aa _ _ _ _ _ (pv 9) ae rfl) rfl)) ae rfl)))) ba)) (@aj _ _ _ (@bR _ _ _ _ _ _ _ _ (PW.pt (ft (aE jJ (aB cLPick hr (by decide) rfl (@aa _ _ _ _ _ (pv 0) (@aa _ _ _ _ _ ah ae rfl) rfl)) (@aP _ _ _ _ _ _ _ _ cT (pv 3) (aR mz rfl B.b_int sI (@aa _ _ _ _ _ (pv 10) ae rfl))) (aS _)) (dF (PW.pt (ir (aE nV (pv 3) ah (aS _)) (gj (cF (pv 10)))))))) (@aj _ _ _ (bC (bS uV vA vB bH (pv 7) (@aa _ _ _ _ _ (@bE _ _ _ _ _ (@aa _ _ _ _ _ (pv 8) (@aa _ _ _ _ _ (pv 9) ae rfl) rfl)) ae rfl)))) ba))))) (λ_=>rfl))) (λ_=>rfl))
  (@aj _ _ _ (@aX _ _ _ _ (@bE _ _ _ _ _ (@aa _ _ _ _ _ (pv 2) (@aa _ _ _ _ _ (aR aU rfl B.b_tuple cb (@aa _ _ _ _ _ (pv 7) ae rfl)) ae rfl) rfl))))))))))),?_⟩
 refine ⟨_,rfl,_,rfl,_,_,rfl,rfl,aA.mpr ⟨p,mo+1,rfl,hp,by lia,aQ (by lia) (by lia),λm' H1 m0 m1 u1 =>?_⟩⟩
 obtain ⟨m,rfl⟩:∃n:Nat,m'=n:=⟨m'.toNat,by lia⟩
 have hm:m<=10:=by lia
 refine ⟨_,rfl,aA.mpr ⟨p,5,rfl,u1.pot,by decide,aQ (by decide) (by decide),λsh H2 s0 s1 u2 =>?_⟩⟩
 refine ⟨_,rfl,aA.mpr ⟨p,3,rfl,u2.pot,by decide,aQ (by decide) (by decide),λlp H3 l0 l1 u3 =>?_⟩⟩
 have uA:=(u1.trans u2).trans u3
 refine ⟨(by show 0<=uL;decide),λlo hlo1 =>?_⟩
 have hlo:=fe uA hlo1
 have npo:lo≠p:=hp.ne hlo
 have uB:=uA.same (af hlo1 (.lst []))
 have elo:upd H3 lo (.lst []) lo=some (.lst (([]:List Int).map V.int)):=ag
 generalize upd H3 lo (.lst [])=H4 at uB elo
 let W1:Nat->St->Hp->Prop:=λk σ H'=>(∃c6 c7 c8 c9 c10,σ=[some (.ref p),some (.int mo),some (.int m),some (.int sh),some (.int lp),some (.ref lo),c6,c7,c8,c9,c10])/\Bu 2 p H H'/\∃os,H' lo=some (.lst (os.map V.int))/\Od (k:Int) os
 refine ⟨_,rfl,(m:Int),rfl,by lia,by lia,bG W1 ⟨⟨_,_,_,_,_,rfl⟩,uB,[],elo,Od.nil⟩ ?_ ?_⟩
 ·rintro k σ H5 hk ⟨⟨c6,c7,c8,c9,c10,rfl⟩,b5,os,eo,O⟩
  have hk':(k:Int)<40:=by lia
  have lo':=O.len
  refine ⟨_,rfl,.inl ⟨rfl,_,SqL.of eo⟩,_,rfl,_,rfl,_,_,rfl,rfl,aA.mpr ⟨p,0+(k:Int)+1,rfl,b5.pot,by lia,aQ (by lia) (by lia),λd H6 d0 d1 b6 =>?_⟩⟩
  obtain ⟨n,rfl⟩:∃n:Nat,d=n:=⟨d.toNat,by lia⟩
  have eo3:=b6.st _ _ npo eo
  refine ⟨_,rfl,lo,_,(n:Int),_,rfl,rfl,eo3,by lia,by rw[ue];lia,by rw[ue];exact aW (by lia),?_⟩
  refine ⟨⟨_,_,_,_,_,rfl⟩,(b5.trans b6).cg hlo npo _,os.take n++(k:Int) :: os.drop n,?_,O.ins (by lia)⟩
  have e0:(0+(k:Int))=k:=by lia
  rw[ag,e0,vR,uJ,vg,AF,AG]
 rintro σ H5 ⟨⟨c6,c7,c8,c9,c10,rfl⟩,b5,os,eo,O⟩
 rw[vR] at O
 have lno:=O.len
 refine ⟨(by show 0<=uL;decide),λla hla1 =>?_⟩
 have hla:=fe b5 hla1
 have np:la≠p:=hp.ne hla
 have nlo:lo≠la:=aq eo hla1
 have m6:Mkg 2 p la H (upd H5 la (.lst [])) []:=⟨b5.same (af hla1 _),ag,(λu hu=>by cases hu),λu hu=>by cases hu⟩
 have eo6:=(af hla1 (.lst [])) _ _ eo
 generalize upd H5 la (.lst [])=H6 at m6 eo6
 let W2:Nat->St->Hp->Prop:=λk σ H'=>(∃c8 c9 c10,σ=[some (.ref p),some (.int mo),some (.int m),some (.int sh),some (.int lp),some (.ref lo),c6,some (.ref la),c8,c9,c10])/\H' lo=some (.lst (os.map V.int))/\∃us,Mkg 2 p la H H' us/\Rg m us/\us.length<=m*k
 refine ⟨_,rfl,(m:Int),rfl,by lia,by lia,bG W2 ⟨⟨_,_,_,rfl⟩,eo6,[],m6,λu hu=>(by cases hu),vv _⟩ ?_ ?_⟩
 ·rintro k σ H7 hk ⟨⟨c8,c9,c10,rfl⟩,eo7,us,m7,rg,lu⟩
  have hk':(k:Int)<m:=by lia
  have km:m*k<=100:=vc (BI hm (show k<=10 by lia)) (by decide)
  let W3:Nat->St->Hp->Prop:=λj σ H'=>(∃c9 c10,σ=[some (.ref p),some (.int mo),some (.int m),some (.int sh),some (.int lp),some (.ref lo),c6,some (.ref la),some (.int (0+(k:Int))),c9,c10])/\H' lo=some (.lst (os.map V.int))/\∃us,Mkg 2 p la H H' us/\Rg m us/\us.length<=m*k+j
  refine ⟨_,rfl,(m:Int),rfl,by lia,by lia,bG W3 ⟨⟨_,_,rfl⟩,eo7,us,m7,rg,by lia⟩ ?_ ?_⟩
  ·rintro j σ H8 hj ⟨⟨c9,c10,rfl⟩,eo8,us,m8,rg,lu⟩
   have hj':(j:Int)<m:=by lia
   refine ⟨_,rfl,.inl ⟨rfl,_,SqL.of eo8⟩,_,rfl,lo,os,0+(k:Int),rfl,rfl,eo8,(O.mem _).mpr ⟨by lia,by lia⟩,by lia,_,rfl,.inl ⟨rfl,_,SqL.of eo8⟩,_,rfl,lo,os,0+(j:Int),rfl,rfl,eo8,(O.mem _).mpr ⟨by lia,by lia⟩,by lia,_,_,rfl,rfl,?_⟩
   generalize decide (((os.idxOf (0+(k:Int)):Nat):Int)<((os.idxOf (0+(j:Int)):Nat):Int))=ri
   have stay:∀H9,Bu 2 p H8 H9->(H9 lo=some (.lst (os.map V.int))/\Mkg 2 p la H H9 us):=λH9 u=>⟨u.st _ _ npo eo8,m8.bu' np u⟩
   refine ⟨_,rfl,_,rfl,rfl,_,rfl,bU (λz =>?_) (λz =>?_)⟩
   ·refine ⟨_,rfl,rfl,_,rfl,bU (λz =>?_) (λz =>?_)⟩
    ·refine ⟨_,rfl,aA.mpr ⟨p,3,rfl,m8.bu.pot,by decide,aQ (by decide) (by decide),λd3 H9 f0 f1 b9=>⟨rfl,_,rfl,bU (λz =>?_) (λz =>?_)⟩⟩⟩
     ·obtain ⟨eoX,mX⟩:=stay H9 b9
      refine ⟨_,rfl,.inl ⟨rfl,_,SqL.of mX.at'⟩,_,rfl,_,rfl,(by show 2<=uL;decide),λt ht =>?_⟩
      have m9:=mX.add hla np ht (0+(k:Int)) (0+(j:Int))
      have eo9:upd (upd H9 t (.tup [.int (0+(k:Int)),.int (0+(j:Int))])) la (.lst ((us.map λu=>V.ref u.1)++[.ref t])) lo=some (.lst (os.map V.int)):=by rw[ak nlo];exact (af ht _) _ _ eoX
      refine ⟨la,_,_,rfl,rfl,(af ht _) _ _ mX.at',by rw[ue];exact aW (by lia),?_⟩
      exact ⟨⟨_,_,rfl⟩,eo9,_,m9,rg.snoc (by lia) (by lia) (by lia) (by lia),by rw[uv];show _+1<=_;lia⟩
     ·obtain ⟨eoX,mX⟩:=stay H9 b9
      exact ⟨⟨_,_,rfl⟩,eoX,us,mX,rg,by lia⟩
    ·exact cW ⟨⟨_,_,rfl⟩,eo8,us,m8,rg,by lia⟩
   ·refine ⟨_,rfl,aA.mpr ⟨p,5,rfl,m8.bu.pot,by decide,aQ (by decide) (by decide),λd5 H9 f0 f1 b9 =>?_⟩⟩
    obtain ⟨eoX,mX⟩:=stay H9 b9
    refine ⟨_,rfl,_,rfl,.inr ⟨_,rfl,_,_,rfl,rfl,_,_,rfl,rfl,_,rfl,bU (λz =>?_) (λz =>?_)⟩⟩
    ·refine ⟨_,rfl,_,_,rfl,rfl,_,rfl,bU (λz =>?_) (λz =>?_)⟩
     ·skip
      refine fw ⟨_,rfl,.inl ⟨rfl,_,SqL.of mX.at'⟩,_,rfl,_,rfl,(by show 2<=uL;decide),λt ht =>?_⟩
      have m9:=mX.add hla np ht (0+(k:Int)) (0+(j:Int))
      have eo9:upd (upd H9 t (.tup [.int (0+(k:Int)),.int (0+(j:Int))])) la (.lst ((us.map λu=>V.ref u.1)++[.ref t])) lo=some (.lst (os.map V.int)):=by rw[ak nlo];exact (af ht _) _ _ eoX
      refine ⟨la,_,_,rfl,rfl,(af ht _) _ _ mX.at',by rw[ue];exact aW (by lia),?_⟩
      exact ⟨⟨_,_,rfl⟩,eo9,_,m9,rg.snoc (by lia) (by lia) (by lia) (by lia),by rw[uv];show _+1<=_;lia⟩
     ·refine ⟨_,rfl,_,rfl,bU (λz =>?_) (λz =>?_)⟩
      ·skip
       refine ⟨_,rfl,.inl ⟨rfl,_,SqL.of mX.at'⟩,_,rfl,_,rfl,(by show 2<=uL;decide),λt ht =>?_⟩
       have m9:=mX.add hla np ht (0+(k:Int)) (0+(j:Int))
       have eo9:upd (upd H9 t (.tup [.int (0+(k:Int)),.int (0+(j:Int))])) la (.lst ((us.map λu=>V.ref u.1)++[.ref t])) lo=some (.lst (os.map V.int)):=by rw[ak nlo];exact (af ht _) _ _ eoX
       refine ⟨la,_,_,rfl,rfl,(af ht _) _ _ mX.at',by rw[ue];exact aW (by lia),?_⟩
       exact ⟨⟨_,_,rfl⟩,eo9,_,m9,rg.snoc (by lia) (by lia) (by lia) (by lia),by rw[uv];show _+1<=_;lia⟩
      ·exact ⟨⟨_,_,rfl⟩,eoX,us,mX,rg,by lia⟩
    ·exact cW ⟨⟨_,_,rfl⟩,eoX,us,mX,rg,by lia⟩
  ·rintro σ H8 ⟨⟨c9,c10,rfl⟩,eo8,us,m8,rg,lu⟩
   rw[vR] at lu
   exact ⟨⟨_,_,_,rfl⟩,eo8,us,m8,rg,by rw[Nat.mul_succ];exact lu⟩
 ·rintro σ H7 ⟨⟨c8,c9,c10,rfl⟩,eo7,us,m7,rg,lu⟩
  rw[vR] at lu
  have mm:m*m<=100:=vc (BI hm hm) (by decide)
  refine ⟨_,rfl,_,rfl,la,_,rfl,.inl ⟨SqL.of m7.at',λl3 hl3=>⟨(by show 2<=uL;decide),λb hb =>?_⟩⟩⟩
  have gA:=(af hl3 (.tup (us.map λt =>.ref t.1))).trans (af hb (.tup [.int m,.ref l3]))
  exact q b m us _ (m7.bu.same gA) ⟨⟨l3,ag,(af hb _) _ _ ag⟩,λu hu=>gA _ _ (m7.tu u hu),rg⟩ hm (by lia)
end
open PySem L2
theorem qw {i:Int}(h0:0<=i)(h1:i<4):∃v:Nat,atI [V.int 8,V.int 9,V.int 12,V.int 40] i=some (.int (v:Int))/\8<=v/\v<=40:=by
 rcases (show i=0\/i=1\/i=2\/i=3 by lia) with z | z | z | z <;> subst z
 ·exact ⟨8,rfl,by decide,by decide⟩
 ·exact ⟨9,rfl,by decide,by decide⟩
 ·exact ⟨12,rfl,by decide,by decide⟩
 ·exact ⟨40,rfl,by decide,by decide⟩
theorem o5 {x y z i:Int}{P:Int->Prop}(h0:0<=i)(h1:i<3)(px:P x)(py:P y)(pz:P z):∃v:Int,atI [V.int x,V.int y,V.int z] i=some (.int v)/\P v:=by
 rcases (show i=0\/i=1\/i=2 by lia) with c | c | c <;> subst c
 ·exact ⟨_,rfl,px⟩
 ·exact ⟨_,rfl,py⟩
 ·exact ⟨_,rfl,pz⟩
abbrev qU:Sp:=λvs H Q _=>∃(p:Addr),vs=[.ref p]/\Pt 2 H p/\∀(b:Addr) (m:Nat) (ts:List (Addr×List Int)) (H':Hp),Bu 2 p H H'->Ow H' b (m:Int) ts->m<=40->ts.length<=200->Q (.ref b) H'
@[irreducible] def qx:Sp:=qU
theorem gY {vs:List V}{H:Hp}{Q:VK}{E:XK}:qx vs H Q E↔qU vs H Q E:=by
 delta qx
 exact xk
section
variable  {P:uM}{w:vt}{K:uh}{mg:Str->Option ug}{base:Heap}{f T:Addr}{fd:vD}
theorem bW:aI ["pot", "many", "arrows", "turn", "a", "b"] ["pot"] (ao fI):=⟨rfl,rfl,rfl,by decide +kernel,rfl,by decide +kernel,by decide +kernel⟩
theorem lF (F:Fun K "_law_some_web" "_law_some_web" fI f fd)(B:Blt mg)(cLPick:Cal P w K mg base 1 "_law_pick" ["pot", "many"] dC)(cLOneway:Cal P w K mg base 2 "_law_oneway" ["pot", "most"] fg):bF P w K mg base CX0 3 f fd ["pot"] qx:=by
 refine F.ok bW (λvs H Q E h =>?_) (λcdv A outer s H vs Q E hr h =>?_)
 ·obtain ⟨_,rfl,_⟩:=gY.mp h
  rfl
 obtain ⟨p,rfl,hp,q⟩:=gY.mp h
 refine ⟨_,(@ai _ _ _ _ _ (@bR _ _ _ _ _ _ _ _ (aE nV (aB cLPick hr (by decide) rfl (@aa _ _ _ _ _ (pv 0) (@aa _ _ _ _ _ ah ae rfl) rfl)) ah (aS _)) (@aj _ _ _ (@aX _ _ _ _ (aB cLOneway hr (by decide) rfl (@aa _ _ _ _ _ (pv 0) (@aa _ _ _ _ _ ah ae rfl) rfl)))) ba)
  (@ai _ _ _ _ _ (@ay _ _ 1 _ _ _ _ bW.nd rfl (Or.inl rfl) (@aJ _ _ _ _ _ _ _ aT (@bE _ _ _ _ _ (@aa _ _ _ _ _ ah (@aa _ _ _ _ _ ah (@aa _ _ _ _ _ ah (@aa _ _ _ _ _ ah ae rfl) rfl) rfl) rfl)) (aB cLPick hr (by decide) rfl (@aa _ _ _ _ _ (pv 0) (@aa _ _ _ _ _ ah ae rfl) rfl)) (λ_ _=>rfl)) rfl (by first | exact .inl rfl | exact .inr rfl | assumption))
  (@ai _ _ _ _ _ (@ay _ _ 2 _ _ _ _ bW.nd rfl (Or.inl rfl) (@cv _ _ _ _ ae) rfl (by first | exact .inl rfl | exact .inr rfl | assumption))
  (@ai _ _ _ _ _ (@cc _ _ _ _ _ _ _ _ vO rfl (aY rfl B.b_range (@aa _ _ _ _ _ (aB cLPick hr (by decide) rfl (@aa _ _ _ _ _ (pv 0) (@aa _ _ _ _ _ ah ae rfl) rfl)) ae rfl)) (aH (i:=3) bW.nd rfl (Or.inl rfl))
   (@ai _ _ _ _ _ (@ay _ _ 4 _ _ _ _ bW.nd rfl (Or.inl rfl) (aB cLPick hr (by decide) rfl (@aa _ _ _ _ _ (pv 0) (@aa _ _ _ _ _ (pv 1) ae rfl) rfl)) rfl (by first | exact .inl rfl | exact .inr rfl | assumption))
   (@ai _ _ _ _ _ (@ay _ _ 5 _ _ _ _ bW.nd rfl (Or.inl rfl) (@aJ _ _ _ _ _ _ _ aT (@bE _ _ _ _ _ (@aa _ _ _ _ _ (aB cLPick hr (by decide) rfl (@aa _ _ _ _ _ (pv 0) (@aa _ _ _ _ _ (pv 1) ae rfl) rfl)) (@aa _ _ _ _ _ (@aP _ _ _ _ _ _ _ _ cU (@aP _ _ _ _ _ _ _ _ cT (pv 4) ah) (pv 1)) (@aa _ _ _ _ _ (ax (iy rfl) rfl B.b_max oU (@aa _ _ _ _ _ ah (@aa _ _ _ _ _ (@aP _ _ _ _ _ _ _ _ nT (pv 4) ah) ae rfl) rfl)) ae rfl) rfl) rfl)) (aB cLPick hr (by decide) rfl (@aa _ _ _ _ _ (pv 0) (@aa _ _ _ _ _ ah ae rfl) rfl)) (λ_ _=>rfl)) rfl (by first | exact .inl rfl | exact .inr rfl | assumption))
   (@aj _ _ _ (@bR _ _ _ _ _ _ _ _ (aE (k9 (hu8 hr)) (@bE _ _ _ _ _ (@aa _ _ _ _ _ (pv 4) (@aa _ _ _ _ _ (pv 5) ae rfl) rfl)) (pv 2) rfl) (@aj _ _ _ (bC (bS uV vA vB bH (pv 2) (@aa _ _ _ _ _ (@bE _ _ _ _ _ (@aa _ _ _ _ _ (pv 4) (@aa _ _ _ _ _ (pv 5) ae rfl) rfl)) ae rfl)))) ba)))) (λ_=>rfl))
  (@aj _ _ _ (@aX _ _ _ _ (@bE _ _ _ _ _ (@aa _ _ _ _ _ (pv 1) (@aa _ _ _ _ _ (aR aU rfl B.b_tuple cb (@aa _ _ _ _ _ (ax da rfl B.b_sorted cR (@aa _ _ _ _ _ (pv 2) ae rfl)) ae rfl)) ae rfl) rfl)))))))),?_⟩
 refine ⟨_,rfl,aA.mpr ⟨p,4,rfl,hp,by decide,aQ (by decide) (by decide),λd1 H1 d0 d4 u1 =>?_⟩⟩
 refine ⟨_,_,rfl,rfl,_,rfl,bU (λz =>?_) λz =>?_⟩
 ·refine ⟨_,rfl,dj.mpr ⟨p,7,rfl,u1.pot,by decide,by decide,λb m ts H2 u2 W m10 tl=>q b m ts H2 (u1.trans u2) W (by lia) tl⟩⟩
 refine ⟨(by show 4<=uL;decide),λt ht =>?_⟩
 have g2:=af ht (.tup [.int 8,.int 9,.int 12,.int 40])
 have et:upd H1 t (.tup [.int 8,.int 9,.int 12,.int 40]) t=some (.tup [.int 8,.int 9,.int 12,.int 40]):=ag
 have u2:=u1.same g2
 refine ⟨_,rfl,aA.mpr ⟨p,4,rfl,u2.pot,by decide,aQ (by decide) (by decide),λd8 H3 d0' d1' u3 =>?_⟩⟩
 obtain ⟨m,em,m8,m40⟩:=qw d0' d1'
 refine ⟨t,_,d8,_,rfl,rfl,SqT.of (u3.tup u2.pot et),em,?_⟩
 have uA:=u2.trans u3
 refine ⟨(by show 0<=uL;decide),λla hla1 =>?_⟩
 have hla:=fe uA hla1
 have np:la≠p:=hp.ne hla
 have m6:Mkg 2 p la H (upd H3 la (.lst [])) []:=⟨uA.same (af hla1 _),ag,(λu hu=>by cases hu),λu hu=>by cases hu⟩
 generalize upd H3 la (.lst [])=H6 at m6
 refine ⟨_,rfl,aA.mpr ⟨p,17,rfl,m6.bu.pot,by decide,aQ (by decide) (by decide),λn H7 n0 n17 u7 =>?_⟩⟩
 have m7:=m6.bu' np u7
 let W0:Nat->St->Hp->Prop:=λk σ H'=>(∃c3 c4 c5,σ=[some (.ref p),some (.int (m:Int)),some (.ref la),c3,c4,c5])/\∃us,Mkg 2 p la H H' us/\Rg m us/\us.length<=k
 refine ⟨n,rfl,by lia,by lia,bG W0 ⟨⟨_,_,_,rfl⟩,[],m7,λu hu=>(by cases hu),vv _⟩ ?_ ?_⟩
 ·rintro k σ H8 hk ⟨⟨c3,c4,c5,rfl⟩,us,m8',rg,lu⟩
  refine ⟨_,rfl,_,rfl,aA.mpr ⟨p,(m:Int),rfl,m8'.bu.pot,by lia,aQ (by lia) (by lia),λa H9 a0 a1 u9 =>?_⟩⟩
  have m9:=m8'.bu' np u9
  refine ⟨_,rfl,_,rfl,aA.mpr ⟨p,(m:Int),rfl,m9.bu.pot,by lia,aQ (by lia) (by lia),λb1 Ha b0 b1' ua =>?_⟩⟩
  have ma:=m9.bu' np ua
  refine ⟨_,rfl,_,_,rfl,rfl,_,rfl,_,_,rfl,rfl,(by show (0:Int)<_;lia),_,rfl,_,_,rfl,rfl,_,_,rfl,(by show 3<=uL;decide),λt3 ht3 =>?_⟩
  generalize hmx:(if a-1>0 then a-1 else (0:Int))=mx
  have mx0:0<=mx/\mx<m:=by rw[<- hmx];split <;> lia
  have g3:=af ht3 (.tup [.int b1,.int ((a+1)%(m:Int)),.int mx])
  have et3:upd Ha t3 (.tup [.int b1,.int ((a+1)%(m:Int)),.int mx]) t3=some (.tup [.int b1,.int ((a+1)%(m:Int)),.int mx]):=ag
  have mb:=ma.bu' np ((Bu.refl ma.bu.pot).same g3)
  generalize upd Ha t3 (.tup [.int b1,.int ((a+1)%(m:Int)),.int mx])=Hb at g3 et3 mb
  refine ⟨_,rfl,aA.mpr ⟨p,3,rfl,mb.bu.pot,by decide,aQ (by decide) (by decide),λd3 Hc f0 f1 uc =>?_⟩⟩
  have mc:=mb.bu' np uc
  obtain ⟨v,ev,v0,v1⟩:=o5 (P:=λv=>0<=v/\v<m) f0 f1 ⟨b0,b1'⟩ ⟨xH (a+1) (b:=(m:Int)) (by lia),wZ (a+1) (b:=(m:Int)) (by lia)⟩ mx0
  refine ⟨t3,_,d3,_,rfl,rfl,SqT.of (uc.tup mb.bu.pot et3),ev,?_⟩
  refine ⟨_,rfl,_,rfl,(by show 2<=uL;decide),λt4 ht4 =>?_⟩
  have g4:=af ht4 (.tup ([a,v].map V.int))
  have et4:upd Hc t4 (.tup ([a,v].map V.int)) t4=some (.tup ([a,v].map V.int)):=ag
  have md:=mc.bu' np ((Bu.refl mc.bu.pot).same g4)
  rw[show [V.int a,V.int v]=[a,v].map V.int from rfl]
  generalize upd Hc t4 (.tup ([a,v].map V.int))=Hd at g4 et4 md
  refine ⟨_,rfl,la,t4,us,[a,v],rfl,rfl,md.at',md.tu,et4,_,rfl,bU (λz =>?_) λz =>?_⟩
  ·refine ⟨_,rfl,.inl ⟨rfl,_,SqL.of md.at'⟩,_,rfl,_,rfl,(by show 2<=uL;decide),λt5 ht5 =>?_⟩
   have me:=md.add hla np ht5 a v
   refine ⟨la,_,_,rfl,rfl,(af ht5 _) _ _ md.at',by rw[ue];exact aW (by lia),?_⟩
   exact ⟨⟨_,_,_,rfl⟩,_,me,rg.snoc a0 a1 v0 v1,by rw[uv];show _+1<=_;lia⟩
  ·exact ⟨⟨_,_,_,rfl⟩,us,md,rg,by lia⟩
 ·rintro σ H8 ⟨⟨c3,c4,c5,rfl⟩,us,m8',rg,lu⟩
  refine ⟨_,rfl,_,rfl,la,us,rfl,.inl (SqL.of m8'.at'),λt ht=>⟨SqT.of (m8'.tu t ht),?_⟩,λl2 out hl2 pm so =>?_⟩
  ·obtain ⟨x,y,e,_⟩:=rg t ht
   rw[e]
   intro z
   cases z
  refine ⟨l2,_,rfl,.inl ⟨SqL.of ag,λl3 hl3=>⟨(by show 2<=uL;decide),λb hb =>?_⟩⟩⟩
  have gA:=((af hl2 (.lst (out.map λt =>.ref t.1))).trans (af hl3 (.tup (out.map λt =>.ref t.1)))).trans (af hb (.tup [.int (m:Int),.ref l3]))
  have:out.length<=17:=by rw[pm.length_eq];lia
  exact q b m out _ (m8'.bu.same gA) ⟨⟨l3,ag,(af hb _) _ _ ag⟩,λu hu=>gA _ _ (m8'.tu u (pm.mem_iff.mp hu)),λu hu=>rg u (pm.mem_iff.mp hu)⟩ m40 (by lia)
end
open PySem L2
theorem qy {tc:TT}{ta tb:TS}{D:Ends}{σ:St}{H:Hp}(h:∀K:Bool->Hp->Prop,(∀k,K k H)->tc σ H K)(ht:ta D σ H)(hf:tb D σ H):sS tc ta tb D σ H:=h _ λk=>by
 cases k with
 | true=>exact ht
 | false=>exact hf
abbrev qV:Sp:=λvs H Q _=>∃(p b:Addr) (m:Nat) (ts:List (Addr×List Int)),vs=[.ref p,.ref b]/\Pt 2 H p/\Ow H b (m:Int) ts/\m<=40/\ts.length<=250/\∀(a:Addr) (ss:List (Addr×List Int)) (H':Hp),Bu 2 p H H'->H' a=some (.tup (ss.map λu =>.ref u.1))->ss.Sublist ts->Q (.ref a) H'
@[irreducible] def qz:Sp:=qV
theorem gZ {vs:List V}{H:Hp}{Q:VK}{E:XK}:qz vs H Q E↔qV vs H Q E:=by
 delta qz
 exact xk
section
variable  {P:uM}{w:vt}{K:uh}{mg:Str->Option ug}{base:Heap}{f T:Addr}{fd:vD}
theorem aV:aI ["pot", "web", "way", "order", "place", "some", "arrow", "back", "drawn"] ["pot", "web"] (ao di):=⟨rfl,rfl,rfl,by decide +kernel,rfl,by decide +kernel,by decide +kernel⟩
theorem iq (F:Fun K "_law_some_arrows" "_law_some_arrows" di f fd)(B:Blt mg)(cLPick:Cal P w K mg base 1 "_law_pick" ["pot", "many"] dC):bF P w K mg base CX0 2 f fd ["pot", "web"] qz:=by
 refine F.ok aV (λvs H Q E h =>?_) (λcdv A outer s H vs Q E hr h =>?_)
 ·obtain ⟨_,_,_,_,rfl,_⟩:=gZ.mp h
  rfl
 obtain ⟨p,b,m,ts,rfl,hp,W,m40,tl,q⟩:=gZ.mp h
 refine ⟨_,(@ai _ _ _ _ _ (@ay _ _ 2 _ _ _ _ aV.nd rfl (Or.inl rfl) (aB cLPick hr (by decide) rfl (@aa _ _ _ _ _ (pv 0) (@aa _ _ _ _ _ ah ae rfl) rfl)) rfl (by first | exact .inl rfl | exact .inr rfl | assumption))
  (@ai _ _ _ _ _ (@ay _ _ 3 _ _ _ _ aV.nd rfl (Or.inl rfl) (@cv _ _ _ _ ae) rfl (by first | exact .inl rfl | exact .inr rfl | assumption))
  (@ai _ _ _ _ _ (@cc _ _ _ _ _ _ _ _ vO rfl (aY rfl B.b_range (@aa _ _ _ _ _ (@aJ _ _ _ _ _ _ _ aT (pv 1) ah (λ_ _=>rfl)) ae rfl)) (aH (i:=4) aV.nd rfl (Or.inl rfl))
   (@aj _ _ _ (bC (bS uV zt zu iH (pv 3) (@aa _ _ _ _ _ (aB cLPick hr (by decide) rfl (@aa _ _ _ _ _ (pv 0) (@aa _ _ _ _ _ (@aP _ _ _ _ _ _ _ _ cT (pv 4) ah) ae rfl) rfl)) (@aa _ _ _ _ _ (pv 4) ae rfl) rfl)))) (λ_=>rfl))
  (@ai _ _ _ _ _ (@ay _ _ 5 _ _ _ _ aV.nd rfl (Or.inl rfl) (@cv _ _ _ _ ae) rfl (by first | exact .inl rfl | exact .inr rfl | assumption))
  (@ai _ _ _ _ _ (@cc _ _ _ _ _ _ _ _ vO rfl (@ef _ _ _ _ (@aJ _ _ _ _ _ _ _ aT (pv 1) ah (λ_ _=>rfl))) (aH (i:=6) aV.nd rfl (Or.inl rfl))
   (@ai _ _ _ _ _ (@ay _ _ 7 _ _ _ _ aV.nd rfl (Or.inl rfl) (eP tw (bS uV wO xx dQ (pv 3) (@aa _ _ _ _ _ (@aJ _ _ _ _ _ _ _ aT (pv 6) ah (λ_ _=>rfl)) ae rfl)) (bS uV wO xx dQ (pv 3) (@aa _ _ _ _ _ (@aJ _ _ _ _ _ _ _ aT (pv 6) ah (λ_ _=>rfl)) ae rfl)) (aS _)) rfl (by first | exact .inl rfl | exact .inr rfl | assumption))
   (@ai _ _ _ _ _ (@ay _ _ 8 _ _ _ _ aV.nd rfl (Or.inl rfl) (aB cLPick hr (by decide) rfl (@aa _ _ _ _ _ (pv 0) (@aa _ _ _ _ _ ah ae rfl) rfl)) rfl (by first | exact .inl rfl | exact .inr rfl | assumption))
   (@aj _ _ _ (@bR _ _ _ _ _ _ _ _ (PW.pt (ir (PW.pt (ft (aE jJ (pv 2) ah (aS _)) (dF (cF (pv 7))))) (ir (PW.pt (ft (aE jJ (pv 2) ah (aS _)) (dF (aE dt (pv 8) ah (aS _))))) (gj (aE dt (pv 2) ah (aS _)))))) (@aj _ _ _ (bC (bS uV vA vB bH (pv 5) (@aa _ _ _ _ _ (pv 6) ae rfl)))) ba)))) (λ_=>rfl))
  (@aj _ _ _ (@aX _ _ _ _ (aR aU rfl B.b_tuple cb (@aa _ _ _ _ _ (pv 5) ae rfl))))))))),?_⟩
 refine ⟨_,rfl,aA.mpr ⟨p,5,rfl,hp,by decide,aQ (by decide) (by decide),λwy H1 w0 w5 u1 =>?_⟩⟩
 refine ⟨(by show 0<=uL;decide),λlo hlo1 =>?_⟩
 have hlo:=fe u1 hlo1
 have npo:lo≠p:=hp.ne hlo
 have uB:=u1.same (af hlo1 (.lst []))
 have elo:upd H1 lo (.lst []) lo=some (.lst (([]:List Int).map V.int)):=ag
 generalize upd H1 lo (.lst [])=H4 at uB elo
 obtain ⟨t,e1,e2⟩:=(W.bu uB hp).at'
 let W0:Nat->St->Hp->Prop:=λk σ H'=>(∃c4 c5 c6 c7 c8,σ=[some (.ref p),some (.ref b),some (.int wy),some (.ref lo),c4,c5,c6,c7,c8])/\Bu 2 p H H'/\∃os,H' lo=some (.lst (os.map V.int))/\Od (k:Int) os
 refine ⟨_,rfl,b,_,0,_,rfl,rfl,SqT.of e1,rfl,(m:Int),rfl,by lia,by lia,bG W0 ⟨⟨_,_,_,_,_,rfl⟩,uB,[],elo,Od.nil⟩ ?_ ?_⟩
 ·rintro k σ H2 hk ⟨⟨c4,c5,c6,c7,c8,rfl⟩,b2,os,eo,O⟩
  have lo':=O.len
  refine ⟨_,rfl,.inl ⟨rfl,_,SqL.of eo⟩,_,rfl,_,rfl,_,_,rfl,rfl,aA.mpr ⟨p,0+(k:Int)+1,rfl,b2.pot,by lia,aQ (by lia) (by lia),λd H3 d0 d1 b3 =>?_⟩⟩
  obtain ⟨n,rfl⟩:∃n:Nat,d=n:=⟨d.toNat,by lia⟩
  have eo3:=b3.st _ _ npo eo
  refine ⟨_,rfl,lo,_,(n:Int),_,rfl,rfl,eo3,by lia,by rw[ue];lia,by rw[ue];exact aW (by lia),?_⟩
  refine ⟨⟨_,_,_,_,_,rfl⟩,(b2.trans b3).cg hlo npo _,os.take n++(k:Int) :: os.drop n,?_,O.ins (by lia)⟩
  have e0:(0+(k:Int))=k:=by lia
  rw[ag,e0,vR,uJ,vg,AF,AG]
 rintro σ H5 ⟨⟨c4,c5,c6,c7,c8,rfl⟩,b5,os,eo,O⟩
 rw[vR] at O
 have lno:=O.len
 refine ⟨(by show 0<=uL;decide),λla hla1 =>?_⟩
 have hla:=fe b5 hla1
 have np:la≠p:=hp.ne hla
 have nlo:lo≠la:=aq eo hla1
 have b6:=b5.same (af hla1 (.lst []))
 have ela:upd H5 la (.lst []) la=some (.lst (([]:List (Addr×List Int)).map λu =>.ref u.1)):=ag
 have eo6:=(af hla1 (.lst [])) _ _ eo
 generalize upd H5 la (.lst [])=H6 at b6 eo6 ela
 obtain ⟨t,e1,e2⟩:=(W.bu b6 hp).at'
 have old:∀{c:Addr} {o:List V} {H':Hp},Bu 2 p H6 H'->H6 c=some (.tup o)->H' c=some (.tup o):=λu e=>u.tup b6.pot e
 let W1:Nat->St->Hp->Prop:=λi σ H'=>(∃c6 c7 c8,σ=[some (.ref p),some (.ref b),some (.int wy),some (.ref lo),c4,some (.ref la),c6,c7,c8])/\Bu 2 p H H'/\H' t=some (.tup (ts.map λu =>.ref u.1))/\H' lo=some (.lst (os.map V.int))/\∃ss:List (Addr×List Int),H' la=some (.lst (ss.map λu =>.ref u.1))/\ss.Sublist (ts.take i)
 refine ⟨_,rfl,b,_,1,_,rfl,rfl,SqT.of e1,rfl,t,rfl,⟨_,SqT.of e2⟩,lJ (xs:=ts.map λu =>.ref u.1) W1 ⟨⟨_,_,_,rfl⟩,b6,e2,eo6,[],ela,List.nil_sublist _⟩ (λi σ H' _ k=>SqT.of k.2.2.1) ?_ ?_⟩
 ·rintro i x σ H7 hx ⟨⟨c6,c7,c8,rfl⟩,b7,et7,eo7,ss,es7,sub⟩
  obtain ⟨u,hu,rfl⟩:=iX hx
  have hi:=(um.mp hu).1
  have mu:=uS hu
  obtain ⟨x,y,e3,x0,x1,y0,y1⟩:=W.rng u mu
  have hu7:=(W.bu b7 hp).tup u mu
  rw[e3] at hu7
  refine ⟨_,rfl,.inl ⟨rfl,_,SqL.of eo7⟩,_,rfl,u.1,_,1,_,rfl,rfl,SqT.of hu7,rfl,lo,os,y,rfl,rfl,eo7,(O.mem _).mpr ⟨y0,y1⟩,by lia,_,rfl,.inl ⟨rfl,_,SqL.of eo7⟩,_,rfl,u.1,_,0,_,rfl,rfl,SqT.of hu7,rfl,lo,os,x,rfl,rfl,eo7,(O.mem _).mpr ⟨x0,x1⟩,by lia,_,_,rfl,rfl,?_⟩
  refine ⟨_,rfl,aA.mpr ⟨p,4,rfl,b7.pot,by decide,aQ (by decide) (by decide),λdr H8 f0 f1 u8 =>?_⟩⟩
  have b8:=b7.trans u8
  have et8:=u8.tup b7.pot et7
  have eo8:=u8.st _ _ npo eo7
  have es8:=u8.st _ _ np es7
  have tk:ts.take (i+1)=ts.take i++[u]:=by rw[vj,hu];rfl
  have ls:ss.length<=i:=by have:=sub.length_le;rw[vx] at this;lia
  have app:Bu 2 p H (upd H8 la (.lst ((ss.map λu=>V.ref u.1)++[.ref u.1])))/\upd H8 la (.lst ((ss.map λu=>V.ref u.1)++[.ref u.1])) t=some (.tup (ts.map λu =>.ref u.1))/\upd H8 la (.lst ((ss.map λu=>V.ref u.1)++[.ref u.1])) lo=some (.lst (os.map V.int))/\∃ss':List (Addr×List Int),upd H8 la (.lst ((ss.map λu=>V.ref u.1)++[.ref u.1])) la=some (.lst (ss'.map λu =>.ref u.1))/\ss'.Sublist (ts.take (i+1)):=by
   refine ⟨b8.cg hla np _,?_,?_,ss++[u],?_,?_⟩
   ·rw[ak (nC et8 es8 (by intro z;cases z))];exact et8
   ·rw[ak nlo];exact eo8
   ·rw[ag,uJ];rfl
   ·rw[tk];exact sub.append (zv _)
  have stay:Bu 2 p H H8/\H8 t=some (.tup (ts.map λu =>.ref u.1))/\H8 lo=some (.lst (os.map V.int))/\∃ss':List (Addr×List Int),H8 la=some (.lst (ss'.map λu =>.ref u.1))/\ss'.Sublist (ts.take (i+1)):=⟨b8,et8,eo8,ss,es8,by rw[tk];exact sub.trans (zw _ _)⟩
  refine ku ?_
  dsimp only
  refine qy (λK hK =>?_) ?_ ?_
  ·refine ⟨_,rfl,_,_,rfl,rfl,_,rfl,bU (λz=>⟨_,rfl,_,rfl,bU (λ_=>hK _) (λ_ =>?_)⟩) (λz=>cW ?_)⟩
   ·exact ⟨_,rfl,_,_,rfl,rfl,_,rfl,bU (λz=>⟨_,rfl,rfl,_,rfl,bU (λ_=>hK _) (λ_=>⟨_,rfl,rfl,_,rfl,hK _⟩)⟩) (λz=>cW ⟨_,rfl,rfl,_,rfl,hK _⟩)⟩
   ·exact ⟨_,rfl,_,_,rfl,rfl,_,rfl,bU (λz=>⟨_,rfl,rfl,_,rfl,bU (λ_=>hK _) (λ_=>⟨_,rfl,rfl,_,rfl,hK _⟩)⟩) (λz=>cW ⟨_,rfl,rfl,_,rfl,hK _⟩)⟩
  ·exact ⟨_,rfl,.inl ⟨rfl,_,SqL.of es8⟩,_,rfl,la,_,_,rfl,rfl,es8,by rw[ue];exact aW (by lia),⟨_,_,_,rfl⟩,app⟩
  ·exact ⟨⟨_,_,_,rfl⟩,stay⟩
 ·rintro σ H7 ⟨⟨c6,c7,c8,rfl⟩,b7,et7,eo7,ss,es7,sub⟩
  rw[ue,uI (ur _)] at sub
  refine ⟨_,rfl,la,_,rfl,.inl ⟨SqL.of es7,λa ha =>?_⟩⟩
  exact q a ss _ (b7.same (af ha _)) ag sub
end
open PySem L2
theorem fi (k:Int):∀ps:List Int,inV (.int k) (ps.map V.int)=decide (k∈ps):=λps=>tS k ps
theorem dU (ps:List Int):(ps.map V.int).all eQ=true:=by
 rw[yx]
 intro x hx
 obtain ⟨n,_,rfl⟩:=uH.mp hx
 rfl
structure Ar (H:Hp)(l:Addr)(m:Nat)(us:List (Addr×List Int)):Prop where
 at':H l=some (.lst (us.map λu =>.ref u.1))
 tup:Tus H us
 rng:Rg (m:Int) us
theorem Ar.same {H H':Hp}{l:Addr}{m:Nat}{us:List (Addr×List Int)}(A:Ar H l m us)(s:aD H H'):Ar H' l m us:=⟨s _ _ A.at',A.tup.same s,A.rng⟩
theorem Ar.pr {H:Hp}{l:Addr}{m:Nat}{us:List (Addr×List Int)}(A:Ar H l m us):∀a b:Int,[a,b]∈us.map (·.2)->(0<=a/\a<m)/\0<=b/\b<m:=λa b h=>by
 obtain ⟨u,hu,e'⟩:=uH.mp h
 obtain ⟨x,y,e,x0,x1,y0,y1⟩:=A.rng u hu
 rw[e] at e'
 cases e'
 exact ⟨⟨x0,x1⟩,y0,y1⟩
theorem iZ (us:List (Addr×List Int)):(us.map λu=>(u.1,V.int (u.2.getD 0 0),V.int (u.2.getD 1 0))).map (λt=>V.ref t.1)=us.map λu=>V.ref u.1:=by rw[Be];rfl
theorem Ar.pairs {K:uh}{H:Hp}{l:Addr}{m:Nat}{us:List (Addr×List Int)}(A:Ar H l m us):SqL K H l ((us.map λu=>(u.1,V.int (u.2.getD 0 0),V.int (u.2.getD 1 0))).map λt =>.ref t.1)/\∀t∈us.map λu=>(u.1,V.int (u.2.getD 0 0),V.int (u.2.getD 1 0)),SqT K H t.1 [t.2.1,t.2.2]:=by
 rw[iZ]
 refine ⟨SqL.of A.at',λt ht =>?_⟩
 obtain ⟨u,hu,rfl⟩:=uH.mp ht
 obtain ⟨x,y,e,_⟩:=A.rng u hu
 have:=A.tup u hu
 rw[e] at this
 have e0:(u.1,V.int (u.2.getD 0 0),V.int (u.2.getD 1 0))=(u.1,V.int x,V.int y):=by rw[e];rfl
 rw[e0]
 exact SqT.of this
theorem jG {us:List (Addr×List Int)}{i:Nat}{t:Addr×V×V}(h:(us.map λu=>(u.1,V.int (u.2.getD 0 0),V.int (u.2.getD 1 0)))[i]? = some t):∃u,us[i]? = some u/\t=(u.1,V.int (u.2.getD 0 0),V.int (u.2.getD 1 0)):=by
 rw[uF] at h
 cases e:us[i]? with
 | none=>rw[e] at h;cases h
 | some u=>rw[e] at h;exact ⟨u,rfl,(vw h).symm⟩
abbrev qW:Sp:=λvs H Q _=>∃(l:Addr) (m:Nat) (us:List (Addr×List Int)),vs=[.int (m:Nat),.ref l]/\Ar H l m us/\m<=40/\us.length<=250/\∀(b:Bool) (H':Hp),aD H H'->(∀G,Gr m (us.map (·.2)) G->Stk m (us.map (·.2)) G->(b=true↔G.length=m))->Q (.bl b) H'
@[irreducible] def qA:Sp:=qW
theorem hJ {vs:List V}{H:Hp}{Q:VK}{E:XK}:qA vs H Q E↔qW vs H Q E:=by
 delta qA
 exact xk
section
variable  {P:uM}{w:vt}{K:uh}{mg:Str->Option ug}{base:Heap}{f T:Addr}{fd:vD}
theorem cB:aI ["many", "arrows", "left", "turn", "heads"] ["many", "arrows"] (ao fH):=⟨rfl,rfl,rfl,by decide +kernel,rfl,by decide +kernel,by decide +kernel⟩
theorem dW:(["a", "b", "left"]:List Str).Nodup:=by decide +kernel
theorem dk:(["place", "heads"]:List Str).Nodup:=by decide +kernel
theorem lH (F:Fun K "_law_no_round" "_law_no_round" fH f fd)(B:Blt mg):bF P w K mg base CX0 1 f fd ["many", "arrows"] qA:=by
 refine F.ok cB (λvs H Q E h =>?_) (λcdv A outer s H vs Q E hr h =>?_)
 ·obtain ⟨_,_,_,rfl,_⟩:=hJ.mp h
  rfl
 obtain ⟨l,m,us,rfl,A,m40,ul,q⟩:=hJ.mp h
 refine ⟨_,(@ai _ _ _ _ _ (@ay _ _ 2 _ _ _ _ cB.nd rfl (Or.inr rfl) (aR (gK hr.hd) rfl B.b_list jA (@aa _ _ _ _ _ (aR fV rfl B.b_range ki (@aa _ _ _ _ _ (pv 0) ae rfl)) ae rfl)) rfl (by first | exact .inl rfl | exact .inr rfl | assumption))
  (@ai _ _ _ _ _ (@cc _ _ _ _ _ _ _ _ vO rfl (aY rfl B.b_range (@aa _ _ _ _ _ (pv 0) ae rfl)) (aH (i:=3) cB.nd rfl (Or.inl rfl))
   (@ai _ _ _ _ _ (@ay _ _ 4 _ _ _ _ cB.nd rfl (Or.inr rfl) (cY ["a", "b", "left"] [none,none,some 2] rfl (@dG _ _ _ _ (pv 1)) rfl (λ_ _ _ _ _=>(gC (K:=K) (i:=0) (j:=1) dW rfl rfl (Or.inl rfl) (Or.inl rfl))) (λ_ _ _ _ _=>(eC (aE (kJ (K:=K)) (pv 0) (pv 2) rfl))) (λ_ _ _ _ _=>(pv 1))) rfl (by first | exact .inl rfl | exact .inr rfl | assumption))
   (@aj _ _ _ (@ay _ _ 2 _ _ _ _ cB.nd rfl (Or.inr rfl) (cY ["place", "heads"] [none,some 4] rfl (@dG _ _ _ _ (pv 2)) rfl (λ_ _ _ _ _=>(aH (i:=0) dk rfl (Or.inl rfl))) (λ_ _ _ _ _=>(eC (aE (kJ (K:=K)) (pv 0) (pv 1) rfl))) (λ_ _ _ _ _=>(pv 0))) rfl (by first | exact .inl rfl | exact .inr rfl | assumption)))) (λ_=>rfl))
  (@aj _ _ _ (@aX _ _ _ _ (eP (qi hr) (pv 2) (@cv _ _ _ _ ae) (aS _)))))),?_⟩
 refine ⟨_,rfl,(m:Int),rfl,λra hra=>⟨ra,m,rfl,ag,by lia,λlf0 hlf0 =>?_⟩⟩
 have g1:=(af hra (.rng 0 m)).trans (af hlf0 (.lst ((vC m).map λi:Nat=>V.int (i:Int))))
 have elf0:upd (upd H ra (.rng 0 m)) lf0 (.lst ((vC m).map λi:Nat=>V.int (i:Int))) lf0=some (.lst ((rgI m).map V.int)):=by rw[ag];unfold rgI;rw[Be];rfl
 generalize upd (upd H ra (.rng 0 m)) lf0 (.lst ((vC m).map λi:Nat=>V.int (i:Int)))=H1 at g1 elf0
 let W0:Nat->St->Hp->Prop:=λi σ H'=>∃(c3 c4:Option V) (lf:Addr) (L:List Int),σ=[some (.int (m:Int)),some (.ref l),some (.ref lf),c3,c4]/\aD H H'/\H' lf=some (.lst (L.map V.int))/\L.length<=m/\(∀G,Gr m (us.map (·.2)) G->Stk m (us.map (·.2)) G->∀v:Int,0<=v->v<m->v∉G->v∈L)/\∀G,Gr m (us.map (·.2)) G->G.length=m->∀v∈L,v∈G.drop i
 refine ⟨_,rfl,(m:Int),rfl,by lia,by lia,bG W0 ⟨_,_,lf0,rgI m,rfl,g1,elf0,by rw[jB];exact ur _,λG _ _ v v0 v1 _=>cD.mpr ⟨v0,v1⟩,λG h hl v hv=>h.full hl (cD.mp hv).1 (cD.mp hv).2⟩ ?_ ?_⟩
 ·rintro i σ H2 hi ⟨c3,c4,lf,L,rfl,s2,el,lL,iS,iG⟩
  have A2:=A.same s2
  refine ⟨_,rfl,l,rfl,⟨_,SqL.of A2.at'⟩,gv (ts:=us.map λu=>(u.1,V.int (u.2.getD 0 0),V.int (u.2.getD 1 0))) (λi ys H'=>H'=H2/\∃hs:List Int,ys=hs.map V.int/\hs.length<=i/\∀v,v∈hs↔∃a∈L,[a,v]∈(us.take i).map (·.2)) (by decide) ⟨rfl,[],rfl,ur _,λv=>⟨λz=>(by cases z),λ⟨a,_,z⟩=>(by cases z)⟩⟩ (by rw[ue];exact xq (small (by lia))) (λi ys H' _ k=>by rw[k.1];exact A2.pairs) ?_ ?_⟩
  ·rintro j t ys Ha ht hy ⟨eH,hs,rfl,lh,hh⟩ R1 R0 r1 r0
   obtain ⟨u,hu,rfl⟩:=jG ht
   obtain ⟨x,y,e3,_⟩:=A.rng u (uS hu)
   rw[eH]
   have g0:u.2.getD 0 0=x:=by rw[e3];rfl
   have g1:u.2.getD 1 0=y:=by rw[e3];rfl
   have tk:(us.take (j+1)).map (·.2)=(us.take j).map (·.2)++[[x,y]]:=by rw[vj,hu,uJ, <- e3];rfl
   rw[g0,g1]
   refine ⟨_,rfl,_,rfl,lf,_,rfl,.inl (SqL.of el),rfl,dU L,_,rfl,?_⟩
   show if (if false=true then _ else inV (.int x) (L.map V.int))=true then _ else _
   rw[if_neg uP,fi]
   refine bU (λz =>?_) λz =>?_
   ·have z:=of_decide_eq_true z
    refine ⟨_,rfl,r1 _ _ ⟨rfl,hs++[y],by rw[uJ];rfl,by rw[uv];show _+1<=_;lia,λv =>?_⟩⟩
    rw[uC,uw,hh v,tk]
    constructor
    ·rintro (⟨a,ha,h⟩ | rfl)
     ·exact ⟨a,ha,vS _ h⟩
     ·exact ⟨x,z,u5 _ (uw.mpr rfl)⟩
    ·rintro ⟨a,ha,h⟩
     rcases uC.mp h with h | h
     ·exact .inl ⟨a,ha,h⟩
     ·have:=uw.mp h
      cases this
      exact .inr rfl
   ·have z:x∉L:=λy=>z (decide_eq_true y)
    refine r0 _ ⟨rfl,hs,rfl,by lia,λv =>?_⟩
    rw[hh v,tk]
    constructor
    ·rintro ⟨a,ha,h⟩
     exact ⟨a,ha,vS _ h⟩
    ·rintro ⟨a,ha,h⟩
     rcases uC.mp h with h | h
     ·exact ⟨a,ha,h⟩
     ·have:=uw.mp h
      cases this
      exact absurd ha z
  rintro ys Ha hy ⟨eH,hs,rfl,lh,hh⟩ lh' hlh
  rw[eH] at hlh ⊢
  rw[ue,uI (ur _)] at hh
  rw[ue] at lh
  have g3:=af hlh (.lst (hs.map V.int))
  have elh:upd H2 lh' (.lst (hs.map V.int)) lh'=some (.lst (hs.map V.int)):=ag
  have el3:=g3 _ _ el
  generalize upd H2 lh' (.lst (hs.map V.int))=H3 at g3 elh el3
  let W1:Nat->List V->Hp->Prop:=λi ys H'=>H'=H3/\∃L':List Int,ys=L'.map V.int/\L'.length<=i/\∀v,v∈L'↔v∈L.take i/\v∈hs
  refine ⟨_,rfl,lf,rfl,⟨_,SqL.of el3⟩,eD (xs:=L.map V.int) W1 ⟨rfl,[],rfl,ur _,λv=>⟨λz=>(by cases z),λz=>(by cases z.1)⟩⟩ (by rw[ue];exact small (by lia)) (λi ys H' _ k=>by rw[k.1];exact SqL.of el3) ?_ ?_⟩
  ·rintro j x ys Ha hx hy ⟨eH,L',rfl,lL',hL'⟩ R1 R0 r1 r0
   obtain ⟨v,ev,rfl⟩:=oM hx
   rw[eH]
   refine ⟨_,rfl,_,rfl,lh',_,rfl,.inl (SqL.of elh),rfl,dU hs,_,rfl,?_⟩
   show if (if false=true then _ else inV (.int v) (hs.map V.int))=true then _ else _
   rw[if_neg uP,fi]
   have tk:L.take (j+1)=L.take j++[v]:=by rw[vj,ev];rfl
   refine bU (λz =>?_) λz =>?_
   ·have z:=of_decide_eq_true z
    refine ⟨_,rfl,r1 _ _ ⟨rfl,L'++[v],by rw[uJ];rfl,by rw[uv];show _+1<=_;lia,λx =>?_⟩⟩
    rw[uC,uw,hL' x,tk,uC,uw]
    constructor
    ·rintro (h | rfl)
     ·exact ⟨.inl h.1,h.2⟩
     ·exact ⟨.inr rfl,z⟩
    ·rintro ⟨h | h,h2⟩
     ·exact .inl ⟨h,h2⟩
     ·exact .inr h
   ·have z:v∉hs:=λy=>z (decide_eq_true y)
    refine r0 _ ⟨rfl,L',rfl,by lia,λx =>?_⟩
    rw[hL' x,tk,uC,uw]
    constructor
    ·exact λh=>⟨.inl h.1,h.2⟩
    ·rintro ⟨h | h,h2⟩
     ·exact ⟨h,h2⟩
     ·subst h;exact absurd h2 z
  rintro ys Ha hy2 ⟨eH,L',rfl,lL',hL'⟩ lf' hlf'
  rw[eH] at hlf' ⊢
  rw[ue,uI (ur _)] at hL'
  rw[ue] at lL'
  refine ⟨_,_,lf',L',rfl,s2.trans (g3.trans (af hlf' _)),ag,by lia,λG hG hS=>hS.turn (λa b h=>(A.pr a b h).1) (λv h1 h2=>(hL' v).mpr ⟨h1,(hh v).mpr h2⟩) (iS G hG hS),λG hG hl=>hG.turn (L:=L) (L':=L') (λv hv=>⟨((hL' v).mp hv).1,(hh v).mp ((hL' v).mp hv).2⟩) (iG G hG hl)⟩
 rintro σ H2 ⟨c3,c4,lf,L,rfl,s2,el,lL,iS,iG⟩
 rw[vR] at iG
 refine ⟨_,rfl,(by show 0<=uL;decide),λl9 hl9 =>?_⟩
 have g9:=af hl9 (.lst [])
 refine ⟨lf,l9,L,[],rfl,rfl,SqL.of (g9 _ _ el),SqL.of ag,q _ _ (s2.trans g9) λG hG hS =>?_⟩
 rw[decide_eq_true_iff]
 constructor
 ·intro e
  apply vI
  intro n
  obtain ⟨v,v0,v1,nv⟩:=hG.lack n
  have:=iS G hG hS v v0 v1 nv
  rw[e] at this
  cases this
 ·intro hl
  apply List.eq_nil_iff_forall_not_mem.mpr
  intro v hv
  have:=iG G hG hl v hv
  rw[List.drop_of_length_le (by lia)] at this
  cases this
end
open PySem L2
theorem lI {F:List Int}{p:Int}(s:F.Pairwise (· < ·))(hp:p∈F)(le:∀v∈F,p<=v):F[0]? = some p:=by
 cases F with
 | nil=>cases hp
 | cons a t =>
  have h1:=le a uZ
  rcases vn.mp hp with z | z
  ·rw[z];rfl
  ·have:=(wD.mp s).1 p z
   lia
abbrev qX:Sp:=λvs H Q _=>∃(l:Addr) (m:Nat) (us:List (Addr×List Int)) (G:List Int),vs=[.int (m:Nat),.ref l]/\Ar H l m us/\m<=40/\us.length<=250/\Gr m (us.map (·.2)) G/\G.length=m/\∀(o:Addr) (H':Hp),aD H H'->H' o=some (.lst (G.map V.int))->Q (.ref o) H'
@[irreducible] def qB:Sp:=qX
theorem hU {vs:List V}{H:Hp}{Q:VK}{E:XK}:qB vs H Q E↔qX vs H Q E:=by
 delta qB
 exact xk
section
variable  {P:uM}{w:vt}{K:uh}{mg:Str->Option ug}{base:Heap}{f T:Addr}{fd:vD}
theorem cS:aI ["many", "arrows", "left", "order", "turn", "heads", "free"] ["many", "arrows"] (ao jy):=⟨rfl,rfl,rfl,by decide +kernel,rfl,by decide +kernel,by decide +kernel⟩
theorem fj:(["a", "b", "left"]:List Str).Nodup:=by decide +kernel
theorem dD:(["place", "heads"]:List Str).Nodup:=by decide +kernel
theorem o6 (F:Fun K "_law_first" "_law_first" jy f fd)(B:Blt mg):bF P w K mg base CX0 1 f fd ["many", "arrows"] qB:=by
 refine F.ok cS (λvs H Q E h =>?_) (λcdv A outer s H vs Q E hr h =>?_)
 ·obtain ⟨_,_,_,_,rfl,_⟩:=hU.mp h
  rfl
 obtain ⟨l,m,us,G,rfl,A,m40,ul,hG,lG,q⟩:=hU.mp h
 refine ⟨_,(@ai _ _ _ _ _ (@ay _ _ 2 _ _ _ _ cS.nd rfl (Or.inr rfl) (aR (gK hr.hd) rfl B.b_list jA (@aa _ _ _ _ _ (aR fV rfl B.b_range ki (@aa _ _ _ _ _ (pv 0) ae rfl)) ae rfl)) rfl (by first | exact .inl rfl | exact .inr rfl | assumption))
  (@ai _ _ _ _ _ (@ay _ _ 3 _ _ _ _ cS.nd rfl (Or.inl rfl) (@cv _ _ _ _ ae) rfl (by first | exact .inl rfl | exact .inr rfl | assumption))
  (@ai _ _ _ _ _ (@cc _ _ _ _ _ _ _ _ vO rfl (aY rfl B.b_range (@aa _ _ _ _ _ (pv 0) ae rfl)) (aH (i:=4) cS.nd rfl (Or.inl rfl))
   (@ai _ _ _ _ _ (@ay _ _ 5 _ _ _ _ cS.nd rfl (Or.inr rfl) (cY ["a", "b", "left"] [none,none,some 2] rfl (@dG _ _ _ _ (pv 1)) rfl (λ_ _ _ _ _=>(gC (K:=K) (i:=0) (j:=1) fj rfl rfl (Or.inl rfl) (Or.inl rfl))) (λ_ _ _ _ _=>(eC (aE (kJ (K:=K)) (pv 0) (pv 2) rfl))) (λ_ _ _ _ _=>(pv 1))) rfl (by first | exact .inl rfl | exact .inr rfl | assumption))
   (@ai _ _ _ _ _ (bV (i:=6) ["place", "heads"] [none,some 5] rfl cS.nd rfl rfl (@dG _ _ _ _ (pv 2)) rfl (λ_ _ _ _ _=>(aH (i:=0) dD rfl (Or.inl rfl))) (λ_ _ _ _ _=>(eC (aE (mH (K:=K)) (pv 0) (pv 1) rfl))) (λ_ _ _ _ _=>(pv 0)))
   (@ai _ _ _ _ _ (bC (bS uV vA vB bH (pv 3) (@aa _ _ _ _ _ (@aJ _ _ _ _ _ _ _ bD (pv 6) ah (λ_ _=>rfl)) ae rfl)))
   (@aj _ _ _ (bC (bS uV xh zr gO (pv 2) (@aa _ _ _ _ _ (@aJ _ _ _ _ _ _ _ bD (pv 6) ah (λ_ _=>rfl)) ae rfl))))))) (λ_=>rfl))
  (@aj _ _ _ (@aX _ _ _ _ (pv 3)))))),?_⟩
 refine ⟨_,rfl,(m:Int),rfl,λra hra=>⟨ra,m,rfl,ag,by lia,λlf hlf =>?_⟩⟩
 have g1:=(af hra (.rng 0 m)).trans (af hlf (.lst ((vC m).map λi:Nat=>V.int (i:Int))))
 have elf:upd (upd H ra (.rng 0 m)) lf (.lst ((vC m).map λi:Nat=>V.int (i:Int))) lf=some (.lst ((rgI m).map V.int)):=by rw[ag];unfold rgI;rw[Be];rfl
 have fl:H lf=none:=(af hra (.rng 0 m)).free hlf
 generalize upd (upd H ra (.rng 0 m)) lf (.lst ((vC m).map λi:Nat=>V.int (i:Int)))=H1 at g1 elf
 refine ⟨(by show 0<=uL;decide),λlo hlo =>?_⟩
 have g2:=af hlo (.lst [])
 have elo:upd H1 lo (.lst []) lo=some (.lst (([]:List Int).map V.int)):=ag
 have fo:H lo=none:=g1.free hlo
 have nl:lf≠lo:=aq elf hlo
 have elf2:=g2 _ _ elf
 have s12:=g1.trans g2
 generalize upd H1 lo (.lst [])=H2 at g2 elo elf2 s12
 let W0:Nat->St->Hp->Prop:=λi σ H'=>∃(c4 c5 c6:Option V) (L:List Int),σ=[some (.int (m:Int)),some (.ref l),some (.ref lf),some (.ref lo),c4,c5,c6]/\aD H H'/\H' lf=some (.lst (L.map V.int))/\H' lo=some (.lst ((G.take i).map V.int))/\L.Pairwise (· < ·)/\∀v,v∈L↔(0<=v/\v<m)/\v∉G.take i
 refine ⟨_,rfl,(m:Int),rfl,by lia,by lia,bG W0 ⟨_,_,_,rgI m,rfl,s12,elf2,elo,kj m,λv=>⟨λh=>⟨cD.mp h,by simp⟩,λh=>cD.mpr h.1⟩⟩ ?_ ?_⟩
 ·rintro i σ H3 hi ⟨c4,c5,c6,L,rfl,s3,el,eo,rL,hL⟩
  have hi':i<m:=by lia
  have lL:L.length<=m:=eY (rL.imp λ{a b} h=>by lia) λv hv=>((hL v).mp hv).1
  have A2:=A.same s3
  refine ⟨_,rfl,l,rfl,⟨_,SqL.of A2.at'⟩,gv (ts:=us.map λu=>(u.1,V.int (u.2.getD 0 0),V.int (u.2.getD 1 0))) (λi ys H'=>H'=H3/\∃hs:List Int,ys=hs.map V.int/\hs.length<=i/\∀v,v∈hs↔∃a∈L,[a,v]∈(us.take i).map (·.2)) (by decide) ⟨rfl,[],rfl,ur _,λv=>⟨λz=>(by cases z),λ⟨a,_,z⟩=>(by cases z)⟩⟩ (by rw[ue];exact xq (small (by lia))) (λi ys H' _ k=>by rw[k.1];exact A2.pairs) ?_ ?_⟩
  ·rintro j t ys Ha ht hy ⟨eH,hs,rfl,lh,hh⟩ R1 R0 r1 r0
   obtain ⟨u,hu,rfl⟩:=jG ht
   obtain ⟨x,y,e3,_⟩:=A.rng u (uS hu)
   rw[eH]
   have g0:u.2.getD 0 0=x:=by rw[e3];rfl
   have g1:u.2.getD 1 0=y:=by rw[e3];rfl
   have tk:(us.take (j+1)).map (·.2)=(us.take j).map (·.2)++[[x,y]]:=by rw[vj,hu,uJ, <- e3];rfl
   rw[g0,g1]
   refine ⟨_,rfl,_,rfl,lf,_,rfl,.inl (SqL.of el),rfl,dU L,_,rfl,?_⟩
   show if (if false=true then _ else inV (.int x) (L.map V.int))=true then _ else _
   rw[if_neg uP,fi]
   refine bU (λz =>?_) λz =>?_
   ·have z:=of_decide_eq_true z
    refine ⟨_,rfl,r1 _ _ ⟨rfl,hs++[y],by rw[uJ];rfl,by rw[uv];show _+1<=_;lia,λv =>?_⟩⟩
    rw[uC,uw,hh v,tk]
    constructor
    ·rintro (⟨a,ha,h⟩ | rfl)
     ·exact ⟨a,ha,vS _ h⟩
     ·exact ⟨x,z,u5 _ (uw.mpr rfl)⟩
    ·rintro ⟨a,ha,h⟩
     rcases uC.mp h with h | h
     ·exact .inl ⟨a,ha,h⟩
     ·have:=uw.mp h
      cases this
      exact .inr rfl
   ·have z:x∉L:=λy=>z (decide_eq_true y)
    refine r0 _ ⟨rfl,hs,rfl,by lia,λv =>?_⟩
    rw[hh v,tk]
    constructor
    ·rintro ⟨a,ha,h⟩
     exact ⟨a,ha,vS _ h⟩
    ·rintro ⟨a,ha,h⟩
     rcases uC.mp h with h | h
     ·exact ⟨a,ha,h⟩
     ·have:=uw.mp h
      cases this
      exact absurd ha z
  rintro ys Ha hy ⟨eH,hs,rfl,lh,hh⟩ lh' hlh
  rw[eH] at hlh ⊢
  rw[ue,uI (ur _)] at hh
  rw[ue] at lh
  have g4:=af hlh (.lst (hs.map V.int))
  have elh:upd H3 lh' (.lst (hs.map V.int)) lh'=some (.lst (hs.map V.int)):=ag
  have el4:=g4 _ _ el
  have eo4:=g4 _ _ eo
  generalize upd H3 lh' (.lst (hs.map V.int))=H4 at g4 elh el4 eo4
  let W1:Nat->List V->Hp->Prop:=λi ys H'=>H'=H4/\∃F:List Int,ys=F.map V.int/\F.Sublist (L.take i)/\∀v,v∈F↔v∈L.take i/\v∉hs
  refine ⟨_,rfl,lf,rfl,⟨_,SqL.of el4⟩,eD (xs:=L.map V.int) W1 ⟨rfl,[],rfl,zv _,λv=>⟨λz=>(by cases z),λz=>(by cases z.1)⟩⟩ (by rw[ue];exact small (by lia)) (λi ys H' _ k=>by rw[k.1];exact SqL.of el4) ?_ ?_⟩
  ·rintro j x ys Ha hx hy ⟨eH,F,rfl,sF,hF⟩ R1 R0 r1 r0
   obtain ⟨v,ev,rfl⟩:=oM hx
   rw[eH]
   refine ⟨_,rfl,_,rfl,lh',_,rfl,.inl (SqL.of elh),rfl,dU hs,_,rfl,?_⟩
   show if (if true=true then !inV (.int v) (hs.map V.int) else _)=true then _ else _
   rw[if_pos rfl,fi]
   have tk:L.take (j+1)=L.take j++[v]:=by rw[vj,ev];rfl
   by_cases z:v∈hs
   ·rw[decide_eq_true z]
    refine cW (r0 _ ⟨rfl,F,rfl,by rw[tk];exact sF.trans (zw _ _),λx =>?_⟩)
    rw[hF x,tk,uC,uw]
    constructor
    ·exact λh=>⟨.inl h.1,h.2⟩
    ·rintro ⟨h | h,h2⟩
     ·exact ⟨h,h2⟩
     ·subst h;exact absurd z h2
   ·rw[decide_eq_false z]
    refine fw ⟨_,rfl,r1 _ _ ⟨rfl,F++[v],by rw[uJ];rfl,by rw[tk];exact sF.append (zv _),λx =>?_⟩⟩
    rw[uC,uw,hF x,tk,uC,uw]
    constructor
    ·rintro (h | rfl)
     ·exact ⟨.inl h.1,h.2⟩
     ·exact ⟨.inr rfl,z⟩
    ·rintro ⟨h | h,h2⟩
     ·exact .inl ⟨h,h2⟩
     ·exact .inr h
  rintro ys Ha hy2 ⟨eH,F,rfl,sF,hF⟩ fr hfr
  rw[eH] at hfr ⊢
  rw[ue,uI (ur _)] at hF sF
  have g5:=af hfr (.lst (F.map V.int))
  have efr:upd H4 fr (.lst (F.map V.int)) fr=some (.lst (F.map V.int)):=ag
  have el5:=g5 _ _ el4
  have eo5:=g5 _ _ eo4
  have nf:fr≠lo:=w6 (aq eo4 hfr)
  have s5:=s3.trans (g4.trans g5)
  generalize upd H4 fr (.lst (F.map V.int))=H5 at g5 efr el5 eo5 s5
  have ei:G[i]? = some G[i]:=ux (by lia)
  obtain ⟨nx,le⟩:=hG.2 i _ ei
  generalize G[i]=p at ei nx le
  have fNx:∀v,v∈F↔Nx m (us.map (·.2)) (G.take i) v:=λv=>by
   rw[hF v,hL v,hh v]
   constructor
   ·rintro ⟨⟨⟨v0,v1⟩,n⟩,h⟩
    refine ⟨v0,v1,n,λa ha=>vI λna=>h ⟨a,(hL a).mpr ⟨(A.pr a v ha).1,na⟩,ha⟩⟩
   ·intro n
    refine ⟨⟨⟨n.p0,n.pm⟩,n.nm⟩,λ⟨a,ha,h⟩ =>?_⟩
    exact ((hL a).mp ha).2 (n.fr a h)
  have f0:=lI (rL.sublist sF) ((fNx p).mpr nx) λv hv=>le v ((fNx v).mp hv)
  have at0:atI (F.map V.int) (0:Int)=some (.int p):=dH (j:=0) (v:=V.int p) (by rw[uF,f0];rfl)
  have tk:G.take (i+1)=G.take i++[p]:=by rw[vj,ei];rfl
  have lt:(G.take i).length<=40:=by rw[vx];lia
  refine ⟨_,rfl,.inl ⟨rfl,_,SqL.of eo5⟩,_,rfl,fr,_,0,_,rfl,rfl,SqL.of efr,at0,lo,_,_,rfl,rfl,eo5,by rw[ue];exact aW (by lia),?_⟩
  rw[show (G.take i).map V.int++[V.int p]=(G.take (i+1)).map V.int by rw[tk,uJ];rfl]
  have s6:=aD.cg s5 fo (.lst ((G.take (i+1)).map V.int))
  have eo6:upd H5 lo (.lst ((G.take (i+1)).map V.int)) lo=some (.lst ((G.take (i+1)).map V.int)):=ag
  have el6:upd H5 lo (.lst ((G.take (i+1)).map V.int)) lf=some (.lst (L.map V.int)):=by rw[ak nl];exact el5
  have ef6:upd H5 lo (.lst ((G.take (i+1)).map V.int)) fr=some (.lst (F.map V.int)):=by rw[ak nf];exact efr
  generalize upd H5 lo (.lst ((G.take (i+1)).map V.int))=H6 at s6 eo6 el6 ef6
  have pL:p∈L:=sF.subset ((fNx p).mpr nx)
  refine ⟨_,rfl,.inl ⟨rfl,_,SqL.of el6⟩,_,rfl,fr,_,0,_,rfl,rfl,SqL.of ef6,at0,lf,L,p,rfl,rfl,el6,pL,?_⟩
  have ndL:L.Nodup:=rL.imp λ{a b} h=>by lia
  refine ⟨_,_,_,L.erase p,rfl,aD.cg s6 fl _,ag,by rw[ak nl.symm];exact eo6,rL.sublist List.erase_sublist,λv =>?_⟩
  rw[ndL.mem_erase_iff,hL v,tk,uC,uw]
  constructor
  ·rintro ⟨h1,h2,h3⟩
   exact ⟨h2,λh=>h.elim h3 h1⟩
  ·rintro ⟨h2,h3⟩
   exact ⟨λh=>h3 (.inr h),h2,λh=>h3 (.inl h)⟩
 rintro σ H3 ⟨c4,c5,c6,L,rfl,s3,el,eo,rL,hL⟩
 rw[vR,uI (by lia)] at eo
 exact ⟨_,rfl,q lo H3 s3 eo⟩
end
open PySem L2
structure Exs (K:uh)(mg:Str->Option ug)(c_WebError c_BadWeb c_NoStep c_NoText c_TooMany c_NoTie c_NoRing c_NotClear c_NotThree c_BadBoard c_NoRow c_NoBack:Addr):Prop where
 x_WebError:mg "WebError" = some (.ref c_WebError)
 x_BadWeb:mg "BadWeb" = some (.ref c_BadWeb)
 x_NoStep:mg "NoStep" = some (.ref c_NoStep)
 x_NoText:mg "NoText" = some (.ref c_NoText)
 x_TooMany:mg "TooMany" = some (.ref c_TooMany)
 x_NoTie:mg "NoTie" = some (.ref c_NoTie)
 x_NoRing:mg "NoRing" = some (.ref c_NoRing)
 x_NotClear:mg "NotClear" = some (.ref c_NotClear)
 x_NotThree:mg "NotThree" = some (.ref c_NotThree)
 x_BadBoard:mg "BadBoard" = some (.ref c_BadBoard)
 x_NoRow:mg "NoRow" = some (.ref c_NoRow)
 x_NoBack:mg "NoBack" = some (.ref c_NoBack)
 n_ex:PySem.W.excIn K c_NotClear oP "ValueError.__new__" = true
 n_i:ExI K c_NotClear
 n_m:PySem.W.exmOne K (.ref c_NotClear) (.ref c_WebError)=some true
 n_v:PySem.W.kitOne K (.ref c_NotClear) (.type "ValueError")=some true
 n_w:PySem.W.kitOne K (.ref c_NotClear) (.ref c_WebError)=some true
 n_n:PySem.W.kitOne K (.ref c_NotClear) (.ref c_NotClear)=some true
 n_o0:PySem.W.kitOne K (.ref c_NotClear) (.ref c_BadWeb)=some false
 n_o1:PySem.W.kitOne K (.ref c_NotClear) (.ref c_NoStep)=some false
 n_o2:PySem.W.kitOne K (.ref c_NotClear) (.ref c_NoText)=some false
 n_o3:PySem.W.kitOne K (.ref c_NotClear) (.ref c_TooMany)=some false
 n_o4:PySem.W.kitOne K (.ref c_NotClear) (.ref c_NoTie)=some false
 n_o5:PySem.W.kitOne K (.ref c_NotClear) (.ref c_NoRing)=some false
 n_o6:PySem.W.kitOne K (.ref c_NotClear) (.ref c_NotThree)=some false
 n_o7:PySem.W.kitOne K (.ref c_NotClear) (.ref c_BadBoard)=some false
 n_o8:PySem.W.kitOne K (.ref c_NotClear) (.ref c_NoRow)=some false
 n_o9:PySem.W.kitOne K (.ref c_NotClear) (.ref c_NoBack)=some false
theorem Gr.one {m:Nat}{E:List (List Int)}{G G':List Int}(h:Gr m E G)(s:Stk m E G)(h':Gr m E G')(s':Stk m E G'):G=G':=by
 have k:∀{A B:List Int},Gr m E A->Stk m E A->Gr m E B->¬ A.length<B.length:=λ{A B} ha sa hb lt=>by
  have e:=ha.is hb (xq lt)
  have:=(hb.2 A.length _ (ux lt)).1
  rw[<- e] at this
  exact sa _ this
 have l:G.length=G'.length:=by
  have:=k h s h'
  have:=k h' s' h
  lia
 have:=h.is h' (by lia)
 rwa [l,uI (ur _)] at this
theorem qC {X:Cx}{E:XK}{j k:Nat}{x:Str}{ps:List Str}{sp:Sp}{e:Expr}{es:List Expr}{t:TA}{p pos:Pos}(hx:Passes (CX1 X.prog X.w) X E)(C:nk X.prog X.w X.K X.mg X.base k x ps sp)(hr:bT j X.A)(hj:k<=j)(hg:Gl X x)(ha:PA X (e :: es) t)
  (hdb:(x == ("__debug__" : Str))=false:=by decide) (he:vG (e :: es) X.env=(false,eval e X.env) :: vG es X.env:=by rfl) (hpl:(yX pos (vG es X.env)).any (·.1)=false:=by rfl) :
  PE X (.Call (.Name x p) (e :: es) [] pos) (nX sp [] E t):=by
 obtain ⟨f,fd,F,m,kp,b⟩:=C.ex
 exact lO F (hr.mono hj) hg m kp b .nil hx ha hdb he hpl
@[irreducible] def mj (C:Addr):Sp:=λvs H Q E=>∃(r a:Addr) (m:Nat) (ts ss:List (Addr×List Int)),vs=[.ref r,.ref a]/\Ow H r (m:Int) ts/\Sm H a ss/\m<=200/\ts.length<=250/\(∀(H':Hp) (G:List Int),aD H H'->Gr m ((rst ts (ss.map (·.2))).map (·.2)) G->Stk m ((rst ts (ss.map (·.2))).map (·.2)) G->G.length=m->Q .non H')/\∀(H':Hp) (G:List Int),aD H H'->Gr m ((rst ts (ss.map (·.2))).map (·.2)) G->Stk m ((rst ts (ss.map (·.2))).map (·.2)) G->G.length≠m->E (.ref C) none H'
theorem fL {C:Addr}{vs:List V}{H:Hp}{Q:VK}{E:XK}:mj C vs H Q E↔∃(r a:Addr) (m:Nat) (ts ss:List (Addr×List Int)),vs=[.ref r,.ref a]/\Ow H r (m:Int) ts/\Sm H a ss/\m<=200/\ts.length<=250/\(∀(H':Hp) (G:List Int),aD H H'->Gr m ((rst ts (ss.map (·.2))).map (·.2)) G->Stk m ((rst ts (ss.map (·.2))).map (·.2)) G->G.length=m->Q .non H')/\∀(H':Hp) (G:List Int),aD H H'->Gr m ((rst ts (ss.map (·.2))).map (·.2)) G->Stk m ((rst ts (ss.map (·.2))).map (·.2)) G->G.length≠m->E (.ref C) none H':=by
 delta mj
 exact xk
section
variable  {P:uM}{w:vt}{K:uh}{mg:Str->Option ug}{base:Heap}{f:Addr}{fd:vD}{c_WebError c_BadWeb c_NoStep c_NoText c_TooMany c_NoTie c_NoRing c_NotClear c_NotThree c_BadBoard c_NoRow c_NoBack:Addr}
theorem hV:aI ["web", "arrows"] ["web", "arrows"] (ao cK):=⟨rfl,rfl,rfl,by decide +kernel,rfl,by decide +kernel,by decide +kernel⟩
theorem hW (F:Fun K "look_clearing" "look_clearing" cK f fd)(B:Blt mg)(Z:Exs K mg c_WebError c_BadWeb c_NoStep c_NoText c_TooMany c_NoTie c_NoRing c_NotClear c_NotThree c_BadBoard c_NoRow c_NoBack)(cArrowsClear:Cal P w K mg base 5 "arrows_clear" ["web", "arrows"] o4):bF P w K mg base (CX1 P w) 6 f fd ["web", "arrows"] (mj c_NotClear):=by
 refine F.okX hV (λvs H Q E h =>?_) (λcdv A outer s H vs Q E hr h =>?_)
 ·obtain ⟨_,_,_,_,_,rfl,_⟩:=fL.mp h
  rfl
 obtain ⟨r,a,m,ts,ss,rfl,W,S,m2,tl,q1,q2⟩:=fL.mp h
 refine ⟨_,(@aj _ _ _ (@bR _ _ _ _ _ _ _ _ (d9 (cF (aB cArrowsClear hr (by decide) rfl (@aa _ _ _ _ _ (pv 0) (@aa _ _ _ _ _ (pv 1) ae rfl) rfl)))) (@aj _ _ _ (oQ (x := "NotClear") tW ⟨Z.n_ex,Z.x_NotClear⟩ hr.hd rfl (@aa _ _ _ _ _ rn ae rfl))) ba)),?_⟩
 refine ⟨_,rfl,_,rfl,e7.mpr ⟨r,a,m,ts,ss,rfl,W,S,m2,tl,λH1 G s1 gr st=>⟨_,rfl,?_⟩⟩⟩
 by_cases c:G.length=m
 ·rw[decide_eq_true c]
  exact cW (q1 H1 G s1 gr st c)
 ·rw[decide_eq_false c]
  exact fw ⟨(by show 1<=uL;decide),q2 H1 G s1 gr st c⟩
end
@[irreducible] def ml (C:Addr):Sp:=λvs H Q E=>∃(r a:Addr) (m:Nat) (ts ss:List (Addr×List Int)),vs=[.ref r,.ref a]/\Ow H r (m:Int) ts/\Sm H a ss/\m<=200/\ts.length<=250/\(∀(l:Addr) (H':Hp) (G:List Int),aD H H'->H l=none->H' l=some (.lst (G.map V.int))->Gr m ((rst ts (ss.map (·.2))).map (·.2)) G->Stk m ((rst ts (ss.map (·.2))).map (·.2)) G->G.length=m->Q (.ref l) H')/\∀(H':Hp) (G:List Int),aD H H'->Gr m ((rst ts (ss.map (·.2))).map (·.2)) G->Stk m ((rst ts (ss.map (·.2))).map (·.2)) G->G.length≠m->E (.ref C) none H'
theorem fM {C:Addr}{vs:List V}{H:Hp}{Q:VK}{E:XK}:ml C vs H Q E↔∃(r a:Addr) (m:Nat) (ts ss:List (Addr×List Int)),vs=[.ref r,.ref a]/\Ow H r (m:Int) ts/\Sm H a ss/\m<=200/\ts.length<=250/\(∀(l:Addr) (H':Hp) (G:List Int),aD H H'->H l=none->H' l=some (.lst (G.map V.int))->Gr m ((rst ts (ss.map (·.2))).map (·.2)) G->Stk m ((rst ts (ss.map (·.2))).map (·.2)) G->G.length=m->Q (.ref l) H')/\∀(H':Hp) (G:List Int),aD H H'->Gr m ((rst ts (ss.map (·.2))).map (·.2)) G->Stk m ((rst ts (ss.map (·.2))).map (·.2)) G->G.length≠m->E (.ref C) none H':=by
 delta ml
 exact xk
section
variable  {P:uM}{w:vt}{K:uh}{mg:Str->Option ug}{base:Heap}{f:Addr}{fd:vD}{c_WebError c_BadWeb c_NoStep c_NoText c_TooMany c_NoTie c_NoRing c_NotClear c_NotThree c_BadBoard c_NoRow c_NoBack:Addr}
theorem hX:aI ["web", "arrows"] ["web", "arrows"] (ao cM):=⟨rfl,rfl,rfl,by decide +kernel,rfl,by decide +kernel,by decide +kernel⟩
theorem hZ (F:Fun K "order_without" "order_without" cM f fd)(B:Blt mg)(Z:Exs K mg c_WebError c_BadWeb c_NoStep c_NoText c_TooMany c_NoTie c_NoRing c_NotClear c_NotThree c_BadBoard c_NoRow c_NoBack)(xLook:nk P w K mg base 6 "look_clearing" ["web", "arrows"] (mj c_NotClear))(cFirstRanks:Cal P w K mg base 3 "first_ranks" ["web"] oZ)(cWithoutArrows:Cal P w K mg base 1 "without_arrows" ["web", "arrows"] o3):bF P w K mg base (CX1 P w) 7 f fd ["web", "arrows"] (ml c_NotClear):=by
 refine F.okX hX (λvs H Q E h =>?_) (λcdv A outer s H vs Q E hr h =>?_)
 ·obtain ⟨_,_,_,_,_,rfl,_⟩:=fM.mp h
  rfl
 obtain ⟨r,a,m,ts,ss,rfl,W,S,m2,tl,q1,q2⟩:=fM.mp h
 refine ⟨_,(@ai _ _ _ _ _ (bC (qC tU xLook hr (by decide) rfl (@aa _ _ _ _ _ (pv 0) (@aa _ _ _ _ _ (pv 1) ae rfl) rfl)))
  (@aj _ _ _ (@aX _ _ _ _ (aB cFirstRanks hr (by decide) rfl (@aa _ _ _ _ _ (aB cWithoutArrows hr (by decide) rfl (@aa _ _ _ _ _ (pv 0) (@aa _ _ _ _ _ (pv 1) ae rfl) rfl)) ae rfl))))),?_⟩
 refine ⟨_,rfl,_,rfl,fL.mpr ⟨r,a,m,ts,ss,rfl,W,S,m2,tl,λH1 G s1 gr st c =>?_,q2⟩⟩
 refine ⟨_,rfl,_,rfl,e6.mpr ⟨r,a,m,ts,ss,rfl,W.same s1,S.same s1,tl,λb H2 s2 W2 =>?_⟩⟩
 refine eZ.mpr ⟨b,m,_,rfl,W2,m2,vc (jD _ _) tl,λl H3 G3 s3 hl el gr3 st3 =>?_⟩
 have s12:=s1.trans s2
 exact q1 l H3 G3 (s12.trans s3) (s12.free hl) el gr3 st3 (by rw[<- gr.one st gr3 st3];exact c)
end
open PySem L2
@[irreducible] def jH (C:Addr):Sp:=λvs H Q E=>∃(r a:Addr) (m:Nat) (ts ss:List (Addr×List Int)),vs=[.ref r,.ref a]/\Ow H r (m:Int) ts/\Sm H a ss/\m<=200/\ts.length<=250/\(∀(l:Addr) (H':Hp) (G:List Int),aD H H'->H l=none->H' l=some (.lst (G.map V.int))->Gr m ((rst ts (ss.map (·.2))).map (·.2)) G->Stk m ((rst ts (ss.map (·.2))).map (·.2)) G->G.length=m->Q (.ref l) H')/\∀(ea:Addr) (H':Hp) (G:List Int),aD H H'->H' ea=some (kg ea (.ref C))->Gr m ((rst ts (ss.map (·.2))).map (·.2)) G->Stk m ((rst ts (ss.map (·.2))).map (·.2)) G->G.length≠m->Q (.ref ea) H'
theorem eK {C:Addr}{vs:List V}{H:Hp}{Q:VK}{E:XK}:jH C vs H Q E↔∃(r a:Addr) (m:Nat) (ts ss:List (Addr×List Int)),vs=[.ref r,.ref a]/\Ow H r (m:Int) ts/\Sm H a ss/\m<=200/\ts.length<=250/\(∀(l:Addr) (H':Hp) (G:List Int),aD H H'->H l=none->H' l=some (.lst (G.map V.int))->Gr m ((rst ts (ss.map (·.2))).map (·.2)) G->Stk m ((rst ts (ss.map (·.2))).map (·.2)) G->G.length=m->Q (.ref l) H')/\∀(ea:Addr) (H':Hp) (G:List Int),aD H H'->H' ea=some (kg ea (.ref C))->Gr m ((rst ts (ss.map (·.2))).map (·.2)) G->Stk m ((rst ts (ss.map (·.2))).map (·.2)) G->G.length≠m->Q (.ref ea) H':=by
 delta jH
 exact xk
section
variable  {P:uM}{w:vt}{K:uh}{mg:Str->Option ug}{base:Heap}{f:Addr}{fd:vD}{c_WebError c_BadWeb c_NoStep c_NoText c_TooMany c_NoTie c_NoRing c_NotClear c_NotThree c_BadBoard c_NoRow c_NoBack:Addr}
theorem fq:aI ["web", "some", "found", "e"] ["web", "some"] (ao lA):=⟨rfl,rfl,rfl,by decide +kernel,rfl,by decide +kernel,by decide +kernel⟩
theorem qD (F:Fun K "_law_said" "_law_said" lA f fd)(B:Blt mg)(Z:Exs K mg c_WebError c_BadWeb c_NoStep c_NoText c_TooMany c_NoTie c_NoRing c_NotClear c_NotThree c_BadBoard c_NoRow c_NoBack)(xOrder:nk P w K mg base 7 "order_without" ["web", "arrows"] (ml c_NotClear)):bF P w K mg base CX0 8 f fd ["web", "some"] (jH c_NotClear):=by
 refine F.ok fq (λvs H Q E h =>?_) (λcdv A outer s H vs Q E hr h =>?_)
 ·obtain ⟨_,_,_,_,_,rfl,_⟩:=eK.mp h
  rfl
 obtain ⟨r,a,m,ts,ss,rfl,W,S,m2,tl,q1,q2⟩:=eK.mp h
 refine ⟨_,(@ai _ _ _ _ _ (@ay _ _ 2 _ _ _ _ fq.nd rfl (Or.inl rfl) rj rfl (by first | exact .inl rfl | exact .inr rfl | assumption))
  (@ai _ _ _ _ _ (sD (i:=3) (n := "e") (x := "WebError") rfl rfl fq.nd rfl rfl rfl Z.x_WebError (qj (qk (i:=2) fq.nd rfl (Or.inl rfl) xOrder hr (by decide) rfl (@aa _ _ _ _ _ (pv 0) (@aa _ _ _ _ _ (pv 1) ae rfl) rfl))) (λ_=>(@aj _ _ _ (@ay _ _ 2 _ _ _ _ fq.nd rfl (Or.inl rfl) (pv 3) rfl (by first | exact .inl rfl | exact .inr rfl | assumption)))))
  (@aj _ _ _ (@aX _ _ _ _ (pv 2))))),?_⟩
 refine ⟨_,rfl,_,rfl,fM.mpr ⟨r,a,m,ts,ss,rfl,W,S,m2,tl,λl H1 G s1 hl el gr st c =>?_,λH1 G s1 gr st c=>⟨Z.n_m,λea he =>?_⟩⟩⟩
 ·exact ⟨_,rfl,q1 l H1 G s1 hl el gr st c⟩
 ·exact ⟨_,rfl,_,rfl,q2 ea _ G (s1.trans (af he _)) ag gr st c⟩
end
@[irreducible] def gh (C:Addr):Sp:=λvs H Q E=>∃(ea:Addr),vs=[.ref ea,.int 6]/\H ea=some (kg ea (.ref C))/\∀H',aD H H'->Q (.bl true) H'
theorem dE {C:Addr}{vs:List V}{H:Hp}{Q:VK}{E:XK}:gh C vs H Q E↔∃(ea:Addr),vs=[.ref ea,.int 6]/\H ea=some (kg ea (.ref C))/\∀H',aD H H'->Q (.bl true) H':=by
 delta gh
 exact xk
section
variable  {P:uM}{w:vt}{K:uh}{mg:Str->Option ug}{base:Heap}{f:Addr}{fd:vD}{c_WebError c_BadWeb c_NoStep c_NoText c_TooMany c_NoTie c_NoRing c_NotClear c_NotThree c_BadBoard c_NoRow c_NoBack:Addr}
theorem kv:aI ["e", "place", "some"] ["e", "place"] (ao jw):=⟨rfl,rfl,rfl,by decide +kernel,rfl,by decide +kernel,by decide +kernel⟩
theorem o7 (F:Fun K "_law_alone" "_law_alone" jw f fd)(B:Blt mg)(Z:Exs K mg c_WebError c_BadWeb c_NoStep c_NoText c_TooMany c_NoTie c_NoRing c_NotClear c_NotThree c_BadBoard c_NoRow c_NoBack):bF P w K mg base CX0 1 f fd ["e", "place"] (gh c_NotClear):=by
 refine F.ok kv (λvs H Q E h =>?_) (λcdv A outer s H vs Q E hr h =>?_)
 ·obtain ⟨_,rfl,_⟩:=dE.mp h
  rfl
 obtain ⟨ea,rfl,ee,q⟩:=dE.mp h
 refine ⟨_,(@ai _ _ _ _ _ (@ay _ _ 2 _ _ _ _ kv.nd rfl (Or.inl rfl) (@cv _ _ _ _ (@aa _ _ _ _ _ (ax (bg (K:=K)) rfl B.b_isinstance az (@aa _ _ _ _ _ (pv 0) (@aa _ _ _ _ _ (bL (v :=.ref c_BadWeb) rfl Z.x_BadWeb rfl) ae rfl) rfl)) (@aa _ _ _ _ _ (ax (bg (K:=K)) rfl B.b_isinstance az (@aa _ _ _ _ _ (pv 0) (@aa _ _ _ _ _ (bL (v :=.ref c_NoStep) rfl Z.x_NoStep rfl) ae rfl) rfl)) (@aa _ _ _ _ _ (ax (bg (K:=K)) rfl B.b_isinstance az (@aa _ _ _ _ _ (pv 0) (@aa _ _ _ _ _ (bL (v :=.ref c_NoText) rfl Z.x_NoText rfl) ae rfl) rfl)) (@aa _ _ _ _ _ (ax (bg (K:=K)) rfl B.b_isinstance az (@aa _ _ _ _ _ (pv 0) (@aa _ _ _ _ _ (bL (v :=.ref c_TooMany) rfl Z.x_TooMany rfl) ae rfl) rfl)) (@aa _ _ _ _ _ (ax (bg (K:=K)) rfl B.b_isinstance az (@aa _ _ _ _ _ (pv 0) (@aa _ _ _ _ _ (bL (v :=.ref c_NoTie) rfl Z.x_NoTie rfl) ae rfl) rfl)) (@aa _ _ _ _ _ (ax (bg (K:=K)) rfl B.b_isinstance az (@aa _ _ _ _ _ (pv 0) (@aa _ _ _ _ _ (bL (v :=.ref c_NoRing) rfl Z.x_NoRing rfl) ae rfl) rfl)) (@aa _ _ _ _ _ (ax (bg (K:=K)) rfl B.b_isinstance az (@aa _ _ _ _ _ (pv 0) (@aa _ _ _ _ _ (bL (v :=.ref c_NotClear) rfl Z.x_NotClear rfl) ae rfl) rfl)) (@aa _ _ _ _ _ (ax (bg (K:=K)) rfl B.b_isinstance az (@aa _ _ _ _ _ (pv 0) (@aa _ _ _ _ _ (bL (v :=.ref c_NotThree) rfl Z.x_NotThree rfl) ae rfl) rfl)) (@aa _ _ _ _ _ (ax (bg (K:=K)) rfl B.b_isinstance az (@aa _ _ _ _ _ (pv 0) (@aa _ _ _ _ _ (bL (v :=.ref c_BadBoard) rfl Z.x_BadBoard rfl) ae rfl) rfl)) (@aa _ _ _ _ _ (ax (bg (K:=K)) rfl B.b_isinstance az (@aa _ _ _ _ _ (pv 0) (@aa _ _ _ _ _ (bL (v :=.ref c_NoRow) rfl Z.x_NoRow rfl) ae rfl) rfl)) (@aa _ _ _ _ _ (ax (bg (K:=K)) rfl B.b_isinstance az (@aa _ _ _ _ _ (pv 0) (@aa _ _ _ _ _ (bL (v :=.ref c_NoBack) rfl Z.x_NoBack rfl) ae rfl) rfl)) ae rfl) rfl) rfl) rfl) rfl) rfl) rfl) rfl) rfl) rfl) rfl)) rfl (by first | exact .inl rfl | exact .inr rfl | assumption))
  (@ai _ _ _ _ _ (@bR _ _ _ _ _ _ _ _ (PW.pt (ir (d9 (cF (ax (bg (K:=K)) rfl B.b_isinstance az (@aa _ _ _ _ _ (pv 0) (@aa _ _ _ _ _ (bL (v :=.ref c_WebError) rfl Z.x_WebError rfl) ae rfl) rfl)))) (gj (d9 (cF (ax (bg (K:=K)) rfl B.b_isinstance az (@aa _ _ _ _ _ (pv 0) (@aa _ _ _ _ _ (i9 (v :=.ty "ValueError") rfl B.b_ValueError ig rfl) ae rfl) rfl))))))) cN ba)
  (@aj _ _ _ (@aX _ _ _ _ (rq (eP dt (bS uV zE PySem.F.type_list_count nj (pv 2) (@aa _ _ _ _ _ qH ae rfl)) ah (aS _)) (rp (@aJ _ _ _ _ _ _ _ bD (pv 2) (pv 1) (λ_ _=>rfl)))))))),?_⟩
 refine ⟨_,rfl,ea,c_NotClear,_,false,rfl,ee,Z.n_i,rfl,Z.n_o0,_,rfl,ea,c_NotClear,_,false,rfl,ee,Z.n_i,rfl,Z.n_o1,_,rfl,ea,c_NotClear,_,false,rfl,ee,Z.n_i,rfl,Z.n_o2,_,rfl,ea,c_NotClear,_,false,rfl,ee,Z.n_i,rfl,Z.n_o3,_,rfl,ea,c_NotClear,_,false,rfl,ee,Z.n_i,rfl,Z.n_o4,_,rfl,ea,c_NotClear,_,false,rfl,ee,Z.n_i,rfl,Z.n_o5,_,rfl,ea,c_NotClear,_,true,rfl,ee,Z.n_i,rfl,Z.n_n,_,rfl,ea,c_NotClear,_,false,rfl,ee,Z.n_i,rfl,Z.n_o6,_,rfl,ea,c_NotClear,_,false,rfl,ee,Z.n_i,rfl,Z.n_o7,_,rfl,ea,c_NotClear,_,false,rfl,ee,Z.n_i,rfl,Z.n_o8,_,rfl,ea,c_NotClear,_,false,rfl,ee,Z.n_i,rfl,Z.n_o9,(by show 11<=uL;decide),λl hl =>?_⟩
 have g1:=af hl (.lst [.bl false,.bl false,.bl false,.bl false,.bl false,.bl false,.bl true,.bl false,.bl false,.bl false,.bl false])
 have el:upd H l (.lst [.bl false,.bl false,.bl false,.bl false,.bl false,.bl false,.bl true,.bl false,.bl false,.bl false,.bl false]) l=some (.lst (([false,false,false,false,false,false,true,false,false,false,false]:List Bool).map V.bl)):=ag
 have ee1:=g1 _ _ ee
 generalize upd H l (.lst [.bl false,.bl false,.bl false,.bl false,.bl false,.bl false,.bl true,.bl false,.bl false,.bl false,.bl false])=H1 at g1 el ee1
 refine ⟨_,rfl,ea,c_NotClear,_,true,rfl,ee1,Z.n_i,rfl,Z.n_w,_,rfl,cW ⟨_,rfl,ea,c_NotClear,_,true,rfl,ee1,Z.n_i,rfl,Z.n_v,_,rfl,cW ?_⟩⟩
 refine ⟨_,rfl,.inl ⟨rfl,_,SqL.of el⟩,l,_,true,rfl,rfl,el,rfl,true,by rw[decide_eq_true (by decide)],fw ⟨_,rfl,_,rfl,l,_,6,_,rfl,rfl,SqL.of el,rfl,q _ g1⟩⟩
end
open PySem L2
def kz (K:uh):Sp:=λvs H Q _=>∃(a:Addr) (ns:List Int),vs=[.ref a]/\SqL K H a (ns.map V.int)/\ns.length<=63/\∀H',Q (.bl true) H'
theorem i3 {K:uh}{vs:List V}{H:Hp}{Q:VK}{E:XK}:kz K vs H Q E↔∃(a:Addr) (ns:List Int),vs=[.ref a]/\SqL K H a (ns.map V.int)/\ns.length<=63/\∀H',Q (.bl true) H':=xk
theorem kA {K:uh}{H:Hp}{n:Nat}:∀ns:List Int,Paired (EqS K H (n+1)) (ns.map V.int) (ns.map V.int)
 | [] =>.nil
 | a :: t =>.cons (.inl ⟨a,rfl,rfl⟩) (kA t)
section
variable  {P:uM}{w:vt}{K:uh}{mg:Str->Option ug}{base:Heap}{f:Addr}{fd:vD}{c_WebError c_BadWeb c_NoStep c_NoText c_TooMany c_NoTie c_NoRing c_NotClear c_NotThree c_BadBoard c_NoRow c_NoBack:Addr}
theorem dq:aI ["script", "k", "pot", "web", "some", "others", "clear", "turn", "found", "about", "order"] ["script"] (ao kh):=⟨rfl,rfl,rfl,by decide +kernel,rfl,by decide +kernel,by decide +kernel⟩
theorem fN:(["arrow", "some"]:List Str).Nodup:=by decide +kernel
theorem nB:(["a", "b"]:List Str).Nodup:=by decide +kernel
theorem ud (F:Fun K "law" "law" kh f fd)(B:Blt mg)(cLDeal:Cal P w K mg base 1 "_law_deal" ["script", "k"] (jE K))(cLSomeWeb:Cal P w K mg base 3 "_law_some_web" ["pot"] qx)(cLSomeArrows:Cal P w K mg base 2 "_law_some_arrows" ["pot", "web"] qz)(cLNoRound:Cal P w K mg base 1 "_law_no_round" ["many", "arrows"] qA)(cLFull:Cal P w K mg base 2 "_law_full" ["pot"] jF)(cArrowsClear:Cal P w K mg base 5 "arrows_clear" ["web", "arrows"] o4)(cLSaid:Cal P w K mg base 8 "_law_said" ["web", "some"] (jH c_NotClear))(cLPick:Cal P w K mg base 1 "_law_pick" ["pot", "many"] dC)(cTurnedAbout:Cal P w K mg base 1 "turned_about" ["web", "arrows"] qr)(cLAlone:Cal P w K mg base 1 "_law_alone" ["e", "place"] (gh c_NotClear))(cLFirst:Cal P w K mg base 1 "_law_first" ["many", "arrows"] qB):bF P w K mg base CX0 9 f fd ["script"] (kz K):=by
 refine F.ok dq (λvs H Q E h =>?_) (λcdv A outer s H vs Q E hr h =>?_)
 ·obtain ⟨_,_,rfl,_⟩:=i3.mp h
  rfl
 obtain ⟨a,ns,rfl,hS,h63,q⟩:=i3.mp h
 have TD:∃t,PSs (gp CX0 P w K mg base ["script", "k", "pot", "web", "some", "others", "clear", "turn", "found", "about", "order"] "law" (ao kh) f cdv A outer s H E).nox ((qg ((bI kh).getD 0 (.Pass ⟨0,0,0,0⟩))).drop 3) t/\∀(D:Ends) (p b:Addr) (kk:Int) (m:Nat) (ts:List (Addr×List Int)) (H0 H1:Hp) (c4 c5 c6 c7 c8 c9 c10:Option V),aD H H0->H0 p=none->Pt 2 H1 p->aD H0 H1->Ow H1 b (m:Int) ts->m<=40->ts.length<=200 →
   (∀σ' H',(∃c1 c2 c3 c4 c5 c6 c7 c8 c9 c10,σ'=[some (.ref a),c1,c2,c3,c4,c5,c6,c7,c8,c9,c10])->aD H H'->D.nx σ' H')->t D [some (.ref a),some (.int kk),some (.ref p),some (.ref b),c4,c5,c6,c7,c8,c9,c10] H1:=by
  refine ⟨_,(@ai _ _ _ _ _ (@ay _ _ 4 _ _ _ _ dq.nd rfl (Or.inr rfl) (aB cLSomeArrows hr (by decide) rfl (@aa _ _ _ _ _ (pv 2) (@aa _ _ _ _ _ (pv 3) ae rfl) rfl)) rfl (by first | exact .inl rfl | exact .inr rfl | assumption))
   (@ai _ _ _ _ _ (bV (i:=5) ["arrow", "some"] [none,some 4] rfl dq.nd rfl rfl (@ef _ _ _ _ (@aJ _ _ _ _ _ _ _ aT (pv 3) ah (λ_ _=>rfl))) rfl (λ_ _ _ _ _=>(aH (i:=0) fN rfl (Or.inl rfl))) (λ_ _ _ _ _=>(eC (aE (gL (hu8 hr)) (pv 0) (pv 1) rfl))) (λ_ _ _ _ _=>(pv 0)))
   (@ai _ _ _ _ _ (@ay _ _ 6 _ _ _ _ dq.nd rfl (Or.inl rfl) (aB cLNoRound hr (by decide) rfl (@aa _ _ _ _ _ (@aJ _ _ _ _ _ _ _ aT (pv 3) ah (λ_ _=>rfl)) (@aa _ _ _ _ _ (pv 5) ae rfl) rfl)) rfl (by first | exact .inl rfl | exact .inr rfl | assumption))
   (@aj _ _ _ (@cc _ _ _ _ _ _ _ _ vO rfl (aY rfl B.b_range (@aa _ _ _ _ _ ah ae rfl)) (aH (i:=7) dq.nd rfl (Or.inl rfl))
    (@ai _ _ _ _ _ (@ay _ _ 8 _ _ _ _ dq.nd rfl (Or.inl rfl) (aB cArrowsClear hr (by decide) rfl (@aa _ _ _ _ _ (pv 3) (@aa _ _ _ _ _ (pv 4) ae rfl) rfl)) rfl (by first | exact .inl rfl | exact .inr rfl | assumption))
    (@ai _ _ _ _ _ (@bR _ _ _ _ _ _ _ _ (PW.pt (ir (d9 (cF (ax fQ rfl B.b_isinstance az (@aa _ _ _ _ _ (pv 8) (@aa _ _ _ _ _ (i9 (v :=.ty "bool") rfl B.b_bool qo rfl) ae rfl) rfl)))) (gj (aE tm (pv 8) (pv 6) (aS _))))) cN ba)
    (@ai _ _ _ _ _ (@ay _ _ 9 _ _ _ _ dq.nd rfl (Or.inl rfl) (ax (dy (w:=w) rfl hr.hd) rfl B.b_sorted cR (@aa _ _ _ _ _ (aR (gJ (w:=w) rfl hr.hd hr.units) rfl B.b_set oW (@aa _ _ _ _ _ (@aP _ _ _ _ _ _ _ _ pM (pv 5) (cY ["a", "b"] [none,none] rfl (@ef _ _ _ _ (pv 4)) rfl (λ_ _ _ _ _=>(gC (K:=K) (i:=0) (j:=1) nB rfl rfl (Or.inl rfl) (Or.inl rfl))) (λ_ _ _ _ _=>fz) (λ_ _ _ _ _=>(@bE _ _ _ _ _ (@aa _ _ _ _ _ (pv 1) (@aa _ _ _ _ _ (pv 0) ae rfl) rfl))))) ae rfl)) ae rfl)) rfl (by first | exact .inl rfl | exact .inr rfl | assumption))
    (@ai _ _ _ _ _ (@bR _ _ _ _ _ _ _ _ (aE (qh hr) (aB cTurnedAbout hr (by decide) rfl (@aa _ _ _ _ _ (pv 3) (@aa _ _ _ _ _ (pv 4) ae rfl) rfl)) (@bE _ _ _ _ _ (@aa _ _ _ _ _ (@aJ _ _ _ _ _ _ _ aT (pv 3) ah (λ_ _=>rfl)) (@aa _ _ _ _ _ (aR aU rfl B.b_tuple cb (@aa _ _ _ _ _ (pv 9) ae rfl)) ae rfl) rfl)) (aS _)) cN ba)
    (@ai _ _ _ _ _ (@ay _ _ 10 _ _ _ _ dq.nd rfl (Or.inl rfl) (aB cLSaid hr (by decide) rfl (@aa _ _ _ _ _ (pv 3) (@aa _ _ _ _ _ (pv 4) ae rfl) rfl)) rfl (by first | exact .inl rfl | exact .inr rfl | assumption))
    (@ai _ _ _ _ _ (@bR _ _ _ _ _ _ _ _ (PW.pt (ft (d9 (cF (pv 6))) (dF (d9 (cF (aB cLAlone hr (by decide) rfl (@aa _ _ _ _ _ (pv 10) (@aa _ _ _ _ _ ah ae rfl) rfl))))))) cN ba)
    (@aj _ _ _ (@bR _ _ _ _ _ _ _ _ (cF (pv 6)) (@ai _ _ _ _ _ (@bR _ _ _ _ _ _ _ _ (PW.pt (ir (d9 (cF (ax fQ rfl B.b_isinstance az (@aa _ _ _ _ _ (pv 10) (@aa _ _ _ _ _ (i9 (v :=.ty "list") rfl B.b_list jA rfl) ae rfl) rfl)))) (gj (aE (qe hr) (pv 10) (aB cLFirst hr (by decide) rfl (@aa _ _ _ _ _ (@aJ _ _ _ _ _ _ _ aT (pv 3) ah (λ_ _=>rfl)) (@aa _ _ _ _ _ (pv 5) ae rfl) rfl)) (aS _))))) cN ba)
     (@aj _ _ _ (bC (bS uV vA vB bH (pv 10) (@aa _ _ _ _ _ ah ae rfl))))) ba)))))))) (λ_=>rfl)))))),?_⟩
  intro D p b kk m ts H0 H1 c4 c5 c6 c7 c8 c9 c10 sH hp0 p1 s01 W hm lt nx
  have stp:∀{H2:Hp},Bu 2 p H1 H2->aD H0 H2:=λu q o e=>u.st q o (λz=>by subst z;rw[hp0] at e;cases e) (s01 _ _ e)
  refine ⟨_,rfl,_,rfl,gZ.mpr ⟨p,b,m,ts,rfl,p1,W,hm,by lia,λsa ss H2 u2 es sbl =>?_⟩⟩
  have sub:∀u∈ss,u∈ts:=λu hu=>sbl.subset hu
  have ls:=sbl.length_le
  have lsum:(rst ts (ss.map (·.2))).length+ss.length<=ts.length:=by
   have h1:ss.length<=ts.countP λu=>decide (u.2∈ss.map (·.2)):=by
    have:=sbl.countP_le (p:=λu=>decide (u.2∈ss.map (·.2)))
    rwa [List.countP_eq_length.mpr λu hu=>decide_eq_true (uH.mpr ⟨u,hu,rfl⟩)] at this
   have h2:=List.length_eq_countP_add_countP (λu:Addr×List Int=>decide (u.2∈ss.map (·.2))) (l:=ts)
   unfold rst
   rw[<- yF]
   have h3:ts.countP (λu => !decide (u.2∈ss.map (·.2)))=ts.countP λu=>decide ¬(decide (u.2∈ss.map (·.2))=true):=A1 λu _=>by simp
   lia
  have s02:=stp u2
  have W2:=W.bu u2 p1
  have S2:Sm H2 sa ss:=⟨es,λu hu=>W2.tup u (sub u hu)⟩
  obtain ⟨t,e1,e2⟩:=W2.at'
  refine ⟨_,rfl,b,_,1,_,rfl,rfl,SqT.of e1,rfl,t,rfl,⟨_,SqT.of e2⟩,dI (xs:=ts.map λu =>.ref u.1) (λi ys H'=>H'=H2/\ys=(rst (ts.take i) (ss.map (·.2))).map λu =>.ref u.1) ⟨rfl,rfl⟩ (by rw[ue];exact small (by lia)) (λi ys H' _ k=>by rw[k.1];exact SqT.of e2) ?_ ?_⟩
  ·rintro i x ys Hx hx hy ⟨eH,rfl⟩ R1 R0 r1 r0
   obtain ⟨u,hu,rfl⟩:=iX hx
   have mu:=uS hu
   rw[eH]
   refine ⟨_,rfl,_,rfl,sa,u.1,ss,u.2,rfl,rfl,S2.at',S2.tup,W2.tup u mu,_,rfl,bU (λz =>?_) λz =>?_⟩
   ·refine ⟨_,rfl,r1 _ _ ⟨rfl,?_⟩⟩
    unfold rst
    rw[vj,hu,xE,uJ]
    rw[show (some u).toList.filter (λu => !decide (u.2∈ss.map (·.2)))=[u] from xv z]
    rfl
   ·refine r0 _ ⟨rfl,?_⟩
    unfold rst
    rw[vj,hu,xE,uJ]
    rw[show (some u).toList.filter (λu => !decide (u.2∈ss.map (·.2)))=[] from xw z]
    exact (vE _).symm
  rintro ys Hx hy ⟨eH,rfl⟩ lo hlo
  rw[eH] at hlo ⊢
  rw[ue,uI (ur _)]
  have g3:=af hlo (.lst ((rst ts (ss.map (·.2))).map λu =>.ref u.1))
  have A3:Ar (upd H2 lo (.lst ((rst ts (ss.map (·.2))).map λu =>.ref u.1))) lo m (rst ts (ss.map (·.2))):=⟨ag,λu hu=>g3 _ _ (W2.tup u (cE.mp hu).1),λu hu=>W2.rng u (cE.mp hu).1⟩
  generalize upd H2 lo (.lst ((rst ts (ss.map (·.2))).map λu =>.ref u.1))=H3 at g3 A3
  have lr:(rst ts (ss.map (·.2))).length<=250:=vc (jD _ _) (by lia)
  refine ⟨_,rfl,b,_,0,_,rfl,rfl,SqT.of (g3 _ _ e1),rfl,_,rfl,hJ.mpr ⟨lo,m,_,rfl,A3,hm,lr,λcl H4 s4 hcl =>?_⟩⟩
  have W4:=W2.same (g3.trans s4)
  have S4:=S2.same (g3.trans s4)
  have A4:=A3.same s4
  have s04:=s02.trans (g3.trans s4)
  let W0:Nat->St->Hp->Prop:=λi σ H'=>(∃c7 c8 c9 c10,σ=[some (.ref a),some (.int kk),some (.ref p),some (.ref b),some (.ref sa),some (.ref lo),some (.bl cl),c7,c8,c9,c10])/\aD H4 H'
  refine ⟨2,rfl,by decide,by decide,bG W0 ⟨⟨_,_,_,_,rfl⟩,aD.refl _⟩ ?_ ?_⟩
  ·rintro i σ H5 hi ⟨⟨c7,c8,c9,c10,rfl⟩,s5⟩
   have W5:=W4.same s5
   have S5:=S4.same s5
   have A5:=A4.same s5
   refine ⟨_,rfl,_,rfl,e7.mpr ⟨b,sa,m,ts,ss,rfl,W5,S5,by lia,by lia,λH6 G s6 gr st =>?_⟩⟩
   have ec:decide (G.length=m)=cl:=by rw[xF,decide_eq_true_iff];exact (hcl G gr st).symm
   rw[ec]
   refine ⟨_,rfl,.bl cl, "bool",_,true,rfl,.bl cl,rfl,_,rfl,cW ⟨_,rfl,_,rfl,rfl,_,rfl,tM rfl ?_⟩⟩
   have W6:=W5.same s6
   have S6:=S5.same s6
   have A6:=A5.same s6
   have p2:∀u∈ss,∃x y,u.2=[x,y]/\0<=x/\x<m/\0<=y/\y<m:=λu hu=>W.rng u (sub u hu)
   have prs:∀{H':Hp},aD H6 H'->SqT K H' sa ((ss.map λu=>(u.1,V.int (u.2.getD 0 0),V.int (u.2.getD 1 0))).map λt =>.ref t.1)/\∀t∈ss.map λu=>(u.1,V.int (u.2.getD 0 0),V.int (u.2.getD 1 0)),SqT K H' t.1 [t.2.1,t.2.2]:=λ{H'} s=>by
    rw[iZ]
    refine ⟨SqT.of (s _ _ S6.at'),λt ht =>?_⟩
    obtain ⟨u,hu,rfl⟩:=uH.mp ht
    obtain ⟨x,y,e,_⟩:=p2 u hu
    have:=s _ _ (S6.tup u hu)
    rw[e] at this
    have e0:(u.1,V.int (u.2.getD 0 0),V.int (u.2.getD 1 0))=(u.1,V.int x,V.int y):=by rw[e];rfl
    rw[e0]
    exact SqT.of this
   refine ⟨_,rfl,_,rfl,sa,rfl,⟨_,SqT.of S6.at'⟩,ni (ts:=ss.map λu:Addr×List Int=>(u.1,V.int (u.2.getD 0 0),V.int (u.2.getD 1 0))) (λi ys H'=>aD H6 H'/\∃vs:List (Addr×List Int),ys=vs.map (λu =>.ref u.1)/\Tus H' vs/\vs.map (·.2)=((ss.map (·.2)).take i).map swp) (by decide) ⟨aD.refl _,[],rfl,λu hu=>(by cases hu),rfl⟩ (by rw[ue];exact small (by lia)) (λi ys H' _ k=>prs k.1) ?_ ?_⟩
   ·rintro j t ys Ha ht hy ⟨sa6,vs,rfl,tv,ev⟩ R1 R0 r1 r0
    obtain ⟨u,hu,rfl⟩:=jG ht
    obtain ⟨x,y,e3,_⟩:=p2 u (uS hu)
    have g0:u.2.getD 0 0=x:=by rw[e3];rfl
    have g1:u.2.getD 1 0=y:=by rw[e3];rfl
    rw[g0,g1]
    refine fw ⟨_,rfl,_,rfl,(by show 2<=uL;decide),λc hc=>r1 _ _ ⟨sa6.trans (af hc _),vs++[(c,[y,x])],by rw[uJ];rfl,Tus.snoc (tv.same (af hc _)) (u:=(c,[y,x])) ag,?_⟩⟩
    rw[uJ,ev,vj,uF,hu,uJ]
    show _++[[y,x]]=_++[swp u.2]
    rw[e3];rfl
   rintro ys H7 hy7 ⟨s7,vs,rfl,tv,ev⟩ lv hlv
   rw[ue,uI (by rw[ue];exact ur _)] at ev
   have lvs:vs.length=ss.length:=by have:=congrArg List.length ev;simpa using this
   have g7:=af hlv (.lst (vs.map λu =>.ref u.1))
   have elv:upd H7 lv (.lst (vs.map λu =>.ref u.1)) lv=some (.lst (vs.map λu =>.ref u.1)):=ag
   have A7:=A6.same (s7.trans g7)
   have tv7:=tv.same g7
   have s67:=s7.trans g7
   generalize upd H7 lv (.lst (vs.map λu =>.ref u.1))=H8 at g7 elv A7 tv7 s67
   refine ⟨lo,lv,_,_,rfl,rfl,SqL.of A7.at',SqL.of elv,by rw[ue,ue];exact small (by lia),λlw hlw =>?_⟩
   rw[<- uJ]
   have g8:=af hlw (.lst ((rst ts (ss.map (·.2))++vs).map λu =>.ref u.1))
   have elw:upd H8 lw (.lst ((rst ts (ss.map (·.2))++vs).map λu =>.ref u.1)) lw=some (.lst ((rst ts (ss.map (·.2))++vs).map λu =>.ref u.1)):=ag
   have s68:=s67.trans g8
   generalize upd H8 lw (.lst ((rst ts (ss.map (·.2))++vs).map λu =>.ref u.1))=H9 at g8 elw s68
   have tal:Tus H9 (rst ts (ss.map (·.2))++vs):=λu hu=>by
    rcases uC.mp hu with z | z
    ·exact s68 _ _ (W6.tup u (cE.mp z).1)
    ·exact g8 _ _ (tv7 u z)
   have two:∀u∈rst ts (ss.map (·.2))++vs,u.2≠[]:=λu hu=>by
    rcases uC.mp hu with z | z
    ·obtain ⟨x,y,e,_⟩:=W.rng u (cE.mp z).1
     rw[e];intro y;cases y
    ·have:u.2∈vs.map (·.2):=uH.mpr ⟨u,z,rfl⟩
     rw[ev] at this
     obtain ⟨t,_,e⟩:=uH.mp this
     rw[<- e];intro y;cases y
   refine ⟨lw,_,rfl,.inl (SqL.of elw),λu hu=>SqT.of (tal u hu),by rw[uv];lia,λsx ws hnx mw ndw cov hlw' =>?_⟩
   have gx:=af hnx (fD w sx (ws.map λt =>.ref t.1))
   rw[uv] at hlw'
   refine ⟨sx,ws,rfl,ag,λu hu=>⟨SqT.of (gx _ _ (tal u (mw u hu))),two u (mw u hu)⟩,by lia,λab out hab pm so =>?_⟩
   have gy:=gx.trans (af hab (.lst (out.map λt =>.ref t.1)))
   have eab:upd (upd H9 sx (fD w sx (ws.map λt =>.ref t.1))) ab (.lst (out.map λt =>.ref t.1)) ab=some (.lst (out.map λt =>.ref t.1)):=ag
   have s6a:=s68.trans gy
   have tao:∀{H':Hp},aD H9 H'->Tus H' out:=λs u hu=>s _ _ (tal u (mw u (pm.mem_iff.mp hu)))
   generalize upd (upd H9 sx (fD w sx (ws.map λt =>.ref t.1))) ab (.lst (out.map λt =>.ref t.1))=Ha at gy eab s6a
   refine ⟨_,rfl,_,rfl,gX.mpr ⟨b,sa,m,ts,ss,rfl,W6.same s6a,S6.same s6a,by lia,λtb us Hb sb Wb ndu sou mem =>?_⟩⟩
   obtain ⟨tt,f1,f2⟩:=Wb.at'
   have W6b:=W6.same (s6a.trans sb)
   obtain ⟨t6,f3,f4⟩:=W6b.at'
   refine ⟨_,rfl,b,_,0,_,rfl,rfl,SqT.of f3,rfl,_,rfl,ab,_,rfl,.inl ⟨SqL.of (sb _ _ eab),λtq htq=>⟨(by show 2<=uL;decide),λtz htz =>?_⟩⟩⟩
   have gq:=(af htq (.tup (out.map λt =>.ref t.1))).trans (af htz (.tup [.int (m:Int),.ref tq]))
   have etz:upd (upd Hb tq (.tup (out.map λt =>.ref t.1))) tz (.tup [.int (m:Int),.ref tq]) tz=some (.tup [.int (m:Int),.ref tq]):=ag
   have etq:upd (upd Hb tq (.tup (out.map λt =>.ref t.1))) tz (.tup [.int (m:Int),.ref tq]) tq=some (.tup (out.map λt =>.ref t.1)):=(af htz _) _ _ ag
   have s6c:=s6a.trans (sb.trans gq)
   generalize upd (upd Hb tq (.tup (out.map λt =>.ref t.1))) tz (.tup [.int (m:Int),.ref tq])=Hc at gq etz etq s6c
   have ndo:(out.map (·.2)).Nodup:=((pm.map (·.2)).nodup_iff).mpr ndw
   have eqv:us.map (·.2)=out.map (·.2):=by
    refine jS ((yR ndu ndo).mpr λx =>?_) (by rw[vL];exact sou) (by rw[vL];exact so)
    rw[mem x,(pm.map (·.2)).mem_iff]
    have inW:x∈ws.map (·.2)↔x∈(rst ts (ss.map (·.2))++vs).map (·.2):=by
     constructor
     ·intro hx
      obtain ⟨u,hu,rfl⟩:=uH.mp hx
      exact uH.mpr ⟨u,mw u hu,rfl⟩
     ·intro hx
      obtain ⟨u,hu,rfl⟩:=uH.mp hx
      exact cov u hu
    rw[inW,uJ,uC,ev]
    constructor
    ·rintro ⟨t,ht,rfl⟩
     obtain ⟨u,hu,rfl⟩:=uH.mp ht
     unfold flp
     by_cases c:u.2∈ss.map (·.2)
     ·rw[if_pos c];exact .inr (uH.mpr ⟨_,c,rfl⟩)
     ·rw[if_neg c];exact .inl (uH.mpr ⟨u,cE.mpr ⟨hu,c⟩,rfl⟩)
    ·rintro (h | h)
     ·obtain ⟨u,hu,rfl⟩:=uH.mp h
      obtain ⟨h1,h2⟩:=cE.mp hu
      exact ⟨u.2,uH.mpr ⟨u,h1,rfl⟩,by unfold flp;rw[if_neg h2]⟩
     ·obtain ⟨t,ht,rfl⟩:=uH.mp h
      obtain ⟨u,hu,rfl⟩:=uH.mp ht
      exact ⟨u.2,uH.mpr ⟨u,sub u hu,rfl⟩,by unfold flp;rw[if_pos ht]⟩
   refine ⟨tb,tz,_,_,rfl,rfl,SqT.of (gq _ _ f1),SqT.of etz,.cons (.inl ⟨_,rfl,rfl⟩) (.cons (.inr (.inr (.inr ⟨tt,tq,_,_,rfl,rfl,.inl ⟨SqT.of (gq _ _ f2),SqT.of etq⟩,pairedT eqv λu hu v hv z =>?_⟩))) .nil),_,rfl,cW ?_⟩
   ·have h1:=gq _ _ (Wb.tup u hu)
    have h2:=tao (gy.trans (sb.trans gq)) v hv
    rw[z] at h1
    exact .inr (.inr (.inr ⟨u.1,v.1,_,_,rfl,rfl,.inl ⟨SqT.of h1,SqT.of h2⟩,kA _⟩))
   have W7:=W6.same s6c
   have S7:=S6.same s6c
   have A8:=A6.same s6c
   have s4c:=s5.trans (s6.trans s6c)
   refine ⟨_,rfl,_,rfl,eK.mpr ⟨b,sa,m,ts,ss,rfl,W7,S7,by lia,by lia,λl Hd G2 sd hl el gr2 st2 c2 =>?_,λea Hd G2 sd ee gr2 st2 c2 =>?_⟩⟩
   ·have ct:cl=true:=(hcl G2 gr2 st2).mpr c2
    subst ct
    have W8:=W7.same sd
    have A9:=A8.same sd
    obtain ⟨t8,h81,h82⟩:=W8.at'
    refine ⟨_,rfl,_,rfl,cW ⟨_,rfl,_,rfl,fw ?_⟩⟩
    refine ⟨_,rfl,.ref l, "list",_,true,rfl,.lst el,rfl,_,rfl,cW ?_⟩
    refine ⟨_,rfl,_,rfl,b,_,0,_,rfl,rfl,SqT.of h81,rfl,_,rfl,hU.mpr ⟨lo,m,_,G2,rfl,A9,hm,lr,gr2,c2,λo He se eo =>?_⟩⟩
    refine ⟨l,o,G2,G2,rfl,rfl,SqL.of (se _ _ el),SqL.of eo,_,rfl,?_⟩
    rw[decide_eq_true (rfl:G2=G2)]
    have el2:=se _ _ el
    refine cW ⟨_,rfl,.inl ⟨rfl,_,SqL.of el2⟩,l,_,_,rfl,rfl,el2,by rw[ue];exact aW (by lia),⟨_,_,_,_,rfl⟩,?_⟩
    have:=aD.cg (sd.trans se) hl (.lst (G2.map V.int++[.int 0]))
    exact s4c.trans this
   ·have cf:cl=false:=by
     cases cl with
     | false=>rfl
     | true=>exact absurd ((hcl G2 gr2 st2).mp rfl) c2
    subst cf
    refine ⟨_,rfl,_,rfl,fw ⟨_,rfl,dE.mpr ⟨ea,rfl,ee,λHe se=>⟨_,rfl,cW ?_⟩⟩⟩⟩
    refine ⟨_,rfl,_,rfl,cW ⟨⟨_,_,_,_,rfl⟩,s4c.trans (sd.trans se)⟩⟩
  ·rintro σ H5 ⟨⟨c7,c8,c9,c10,rfl⟩,s5⟩
   exact nx _ _ ⟨_,_,_,_,_,_,_,_,_,_,rfl⟩ (sH.trans (s04.trans s5))
 obtain ⟨tD,pD,gD⟩:=TD
 refine ⟨_,(@ai _ _ _ _ _ (@cc _ _ _ _ _ _ _ _ vO rfl (aY rfl B.b_range (@aa _ _ _ _ _ (ax (iy rfl) rfl B.b_max oU (@aa _ _ _ _ _ ah (@aa _ _ _ _ _ (ax (my rfl) rfl B.b_min oV (@aa _ _ _ _ _ (ax ck rfl B.b_len jz (@aa _ _ _ _ _ (pv 0) ae rfl)) (@aa _ _ _ _ _ ah ae rfl) rfl)) ae rfl) rfl)) ae rfl)) (aH (i:=1) dq.nd rfl (Or.inl rfl))
   (@ai _ _ _ _ _ (@ay _ _ 2 _ _ _ _ dq.nd rfl (Or.inl rfl) (aB cLDeal hr (by decide) rfl (@aa _ _ _ _ _ (pv 0) (@aa _ _ _ _ _ (pv 1) ae rfl) rfl)) rfl (by first | exact .inl rfl | exact .inr rfl | assumption))
   (@ai _ _ _ _ _ (@ay _ _ 3 _ _ _ _ dq.nd rfl (Or.inl rfl) (aB cLSomeWeb hr (by decide) rfl (@aa _ _ _ _ _ (pv 2) ae rfl)) rfl (by first | exact .inl rfl | exact .inr rfl | assumption))
   (@ai _ _ _ _ _ (@bR _ _ _ _ _ _ _ _ (PW.pt (ft (aE dt (pv 1) ah (aS _)) (dF (aE dt (aB cLPick hr (by decide) rfl (@aa _ _ _ _ _ (pv 2) (@aa _ _ _ _ _ ah ae rfl) rfl)) ah (aS _))))) (@aj _ _ _ (@ay _ _ 3 _ _ _ _ dq.nd rfl (Or.inl rfl) (aB cLFull hr (by decide) rfl (@aa _ _ _ _ _ (pv 2) ae rfl)) rfl (by first | exact .inl rfl | exact .inr rfl | assumption))) ba)
   pD))) (λ_=>rfl))
  (@aj _ _ _ (@aX _ _ _ _ qH))),?_⟩
 refine ⟨_,rfl,a,_,rfl,.inl hS,_,_,rfl,_,_,rfl,?_⟩
 obtain ⟨N,hN,N0,N1⟩:∃N:Int,(if (if (16:Int)<((ns.map V.int).length:Int) then (16:Int) else ((ns.map V.int).length:Int))>1 then (if (16:Int)<((ns.map V.int).length:Int) then (16:Int) else ((ns.map V.int).length:Int)) else 1)=N/\0<=N/\N<=63:=⟨_,rfl,by split <;> (try split) <;> lia,by rw[ue];split <;> (try split) <;> lia⟩
 rw[hN]
 let W1:Nat->St->Hp->Prop:=λ_ σ H'=>(∃c1 c2 c3 c4 c5 c6 c7 c8 c9 c10,σ=[some (.ref a),c1,c2,c3,c4,c5,c6,c7,c8,c9,c10])/\aD H H'
 refine ⟨N,rfl,by lia,by lia,bG W1 ⟨⟨_,_,_,_,_,_,_,_,_,_,rfl⟩,aD.refl _⟩ ?_ (λσ H' _=>q _)⟩
 rintro k σ H0 hk ⟨⟨c1,c2,c3,c4,c5,c6,c7,c8,c9,c10,rfl⟩,s0⟩
 have hk':(k:Int)<63:=by lia
 refine ⟨_,rfl,_,rfl,eG.mpr ⟨a,ns,0+(k:Int),rfl,s0.seq hS,by lia,by lia,λx y p hp =>?_⟩⟩
 have p0:Pt 2 (upd H0 p (.lst ([x,y].map V.int))) p:=⟨[x,y],rfl,ag⟩
 have b0:=Bu.refl p0
 refine ⟨_,rfl,gY.mpr ⟨p,rfl,p0,λb m ts H3 b3 W3 hm lt =>?_⟩⟩
 have bA:=b0.trans b3
 have fin:∀(σ':St) (H':Hp),(∃c1 c2 c3 c4 c5 c6 c7 c8 c9 c10,σ'=[some (.ref a),c1,c2,c3,c4,c5,c6,c7,c8,c9,c10])->aD H H'->(∃c1 c2 c3 c4 c5 c6 c7 c8 c9 c10,σ'=[some (.ref a),c1,c2,c3,c4,c5,c6,c7,c8,c9,c10])/\aD H H':=λ_ _ h1 h2=>⟨h1,h2⟩
 refine ⟨_,rfl,rfl,_,rfl,bU (λz =>?_) (λz =>?_)⟩
 ·refine ⟨_,rfl,aA.mpr ⟨p,6,rfl,bA.pot,by decide,aQ (by decide) (by decide),λd4 H4 f0 f1 b4=>⟨rfl,_,rfl,bU (λz =>?_) (λz =>?_)⟩⟩⟩
  ·refine ⟨_,rfl,eI.mpr ⟨p,rfl,b4.pot,λb' ts' H5 b5 W5 lt5 =>?_⟩⟩
   have bB:=(bA.trans b4).trans b5
   exact gD _ p b' _ 24 ts' H0 H5 _ _ _ _ _ _ _ s0 hp bB.pot (Bu.fresh hp bB) W5 (by decide) lt5 fin
  ·have bB:=bA.trans b4
   exact gD _ p b _ m ts H0 H4 _ _ _ _ _ _ _ s0 hp bB.pot (Bu.fresh hp bB) (W3.bu b4 bA.pot) hm lt fin
 ·exact cW (gD _ p b _ m ts H0 H3 _ _ _ _ _ _ _ s0 hp bA.pot (Bu.fresh hp bA) W3 hm lt fin)
end
open PySem L2
theorem all_mk {l:PySem.W.OpenLaw}{w:vt}{K:uh}{h:Heap}{mg:Str->Option ug}{fa:Addr}(X:K.In h)(G:h.Ns vb mg)(hfa:mg "law" = some (.ref fa))
  (h1:bQ K "out_lists" fF) (h2:bQ K "in_lists" gP) (h3:bQ K "turned_arrows" cJ) (h4:bQ K "first_ranks" dz) (h5:bQ K "has_ranks" fG) (h6:bQ K "without_arrows" cz) (h7:bQ K "arrows_clear" df) (h8:bQ K "look_clearing" cK) (h9:bQ K "turned_about" dh) (h10:bQ K "order_without" cM) (h11:bQ K "_law_deal" gQ) (h12:bQ K "_law_pick" lb) (h13:bQ K "_law_oneway" gR) (h14:bQ K "_law_no_round" fH) (h15:bQ K "_law_alone" jw) (h16:bQ K "_law_some_web" fI) (h17:bQ K "_law_full" ly) (h18:bQ K "_law_some_arrows" di) (h19:bQ K "_law_first" jy) (h20:bQ K "_law_said" lA) (h21:bQ K "law" kh)
  (y_bool:vq K vb "bool" = some none) (y_divmod:vq K vb "divmod" = some none) (y_int:vq K vb "int" = some none) (y_isinstance:vq K vb "isinstance" = some none) (y_len:vq K vb "len" = some none) (y_list:vq K vb "list" = some none) (y_max:vq K vb "max" = some none) (y_min:vq K vb "min" = some none) (y_range:vq K vb "range" = some none) (y_set:vq K vb "set" = some none) (y_sorted:vq K vb "sorted" = some none) (y_tuple:vq K vb "tuple" = some none) (y_ValueError:vq K vb "ValueError" = some none)
  {c_WebError:Addr} (e_WebError:vq K vb "WebError" = some (some (.ref c_WebError)))
  {c_BadWeb:Addr} (e_BadWeb:vq K vb "BadWeb" = some (some (.ref c_BadWeb)))
  {c_NoStep:Addr} (e_NoStep:vq K vb "NoStep" = some (some (.ref c_NoStep)))
  {c_NoText:Addr} (e_NoText:vq K vb "NoText" = some (some (.ref c_NoText)))
  {c_TooMany:Addr} (e_TooMany:vq K vb "TooMany" = some (some (.ref c_TooMany)))
  {c_NoTie:Addr} (e_NoTie:vq K vb "NoTie" = some (some (.ref c_NoTie)))
  {c_NoRing:Addr} (e_NoRing:vq K vb "NoRing" = some (some (.ref c_NoRing)))
  {c_NotClear:Addr} (e_NotClear:vq K vb "NotClear" = some (some (.ref c_NotClear)))
  {c_NotThree:Addr} (e_NotThree:vq K vb "NotThree" = some (some (.ref c_NotThree)))
  {c_BadBoard:Addr} (e_BadBoard:vq K vb "BadBoard" = some (some (.ref c_BadBoard)))
  {c_NoRow:Addr} (e_NoRow:vq K vb "NoRow" = some (some (.ref c_NoRow)))
  {c_NoBack:Addr} (e_NoBack:vq K vb "NoBack" = some (some (.ref c_NoBack)))
  (n_ex:PySem.W.excIn K c_NotClear oP "ValueError.__new__" = true)
  (n_ga:PySem.W.findIn K (.ref c_NotClear) "__getattribute__" = some (some (.builtin "BaseException.__getattribute__")))
  (n_gt:PySem.W.findIn K (.ref c_NotClear) "__getattr__" = some none)
  (n_cl:PySem.W.findIn K (.ref c_NotClear) "__class__" = some (some (.builtin "object.__class__")))
  (n_mo:PySem.W.subIn K (.ref c_NotClear) (.type "object")=some true)
  (n_sb:PySem.W.subIn K (.ref c_NotClear) (.type "BaseException")=some true)
  (n_it:(PySem.W.clsIn K c_NotClear).isSome=true)
  (n_m:PySem.W.exmOne K (.ref c_NotClear) (.ref c_WebError)=some true)
  (n_v:PySem.W.kitOne K (.ref c_NotClear) (.type "ValueError")=some true)
  (n_w:PySem.W.kitOne K (.ref c_NotClear) (.ref c_WebError)=some true)
  (n_n:PySem.W.kitOne K (.ref c_NotClear) (.ref c_NotClear)=some true)
  (n_o0:PySem.W.kitOne K (.ref c_NotClear) (.ref c_BadWeb)=some false)
  (n_o1:PySem.W.kitOne K (.ref c_NotClear) (.ref c_NoStep)=some false)
  (n_o2:PySem.W.kitOne K (.ref c_NotClear) (.ref c_NoText)=some false)
  (n_o3:PySem.W.kitOne K (.ref c_NotClear) (.ref c_TooMany)=some false)
  (n_o4:PySem.W.kitOne K (.ref c_NotClear) (.ref c_NoTie)=some false)
  (n_o5:PySem.W.kitOne K (.ref c_NotClear) (.ref c_NoRing)=some false)
  (n_o6:PySem.W.kitOne K (.ref c_NotClear) (.ref c_NotThree)=some false)
  (n_o7:PySem.W.kitOne K (.ref c_NotClear) (.ref c_BadBoard)=some false)
  (n_o8:PySem.W.kitOne K (.ref c_NotClear) (.ref c_NoRow)=some false)
  (n_o9:PySem.W.kitOne K (.ref c_NotClear) (.ref c_NoBack)=some false)
  : ∃fd:vD,(∀(s:uj) (v:ug),BindsTo s fd ⟨[v],[]⟩ [("script",v)])/\∀base:Heap,K.In base->base.Ns vb mg->bF l.prog w K mg base CX0 9 fa fd ["script"] (kz K):=by
 obtain ⟨fl,od,an,sl,oc,kV,dc,pm,cd,ct,al,ll,cl,kl⟩:=h21
 have e:=hfa.symm.trans (vW X G al)
 cases e
 have F21:=kF ll cl kl
 have z_bool:=vy X G y_bool
 have z_divmod:=vy X G y_divmod
 have z_int:=vy X G y_int
 have z_isinstance:=vy X G y_isinstance
 have z_len:=vy X G y_len
 have z_list:=vy X G y_list
 have z_max:=vy X G y_max
 have z_min:=vy X G y_min
 have z_range:=vy X G y_range
 have z_set:=vy X G y_set
 have z_sorted:=vy X G y_sorted
 have z_tuple:=vy X G y_tuple
 have z_ValueError:=vy X G y_ValueError
 refine ⟨PySem.W.fnOf "law" "law" (cp kh) (bI kh) (ao kh) .none kV dc pm an cd ct,λs v =>.of_eq rfl,λbase kb nb =>?_⟩
 have B:Blt mg:=⟨z_bool,z_divmod,z_int,z_isinstance,z_len,z_list,z_max,z_min,z_range,z_set,z_sorted,z_tuple,z_ValueError⟩
 have x_WebError:=vW X G e_WebError
 have x_BadWeb:=vW X G e_BadWeb
 have x_NoStep:=vW X G e_NoStep
 have x_NoText:=vW X G e_NoText
 have x_TooMany:=vW X G e_TooMany
 have x_NoTie:=vW X G e_NoTie
 have x_NoRing:=vW X G e_NoRing
 have x_NotClear:=vW X G e_NotClear
 have x_NotThree:=vW X G e_NotThree
 have x_BadBoard:=vW X G e_BadBoard
 have x_NoRow:=vW X G e_NoRow
 have x_NoBack:=vW X G e_NoBack
 have Z:Exs K mg c_WebError c_BadWeb c_NoStep c_NoText c_TooMany c_NoTie c_NoRing c_NotClear c_NotThree c_BadBoard c_NoRow c_NoBack:=⟨x_WebError,x_BadWeb,x_NoStep,x_NoText,x_TooMany,x_NoTie,x_NoRing,x_NotClear,x_NotThree,x_BadBoard,x_NoRow,x_NoBack,n_ex,⟨n_ga,n_gt,n_cl,n_mo,n_sb,n_it⟩,n_m,n_v,n_w,n_n,n_o0,n_o1,n_o2,n_o3,n_o4,n_o5,n_o6,n_o7,n_o8,n_o9⟩
 have cLDeal:=h11.cal l.prog w base X G (λF=>qs F B) λ_ _ _ _ _ _ us hl=>match us,hl with | [_,_],_=>rfl
 have cLPick:=h12.cal l.prog w base X G (λF=>qu F B) λ_ _ _ _ _ _ us hl=>match us,hl with | [_,_],_=>rfl
 have cLOneway:=h13.cal l.prog w base X G (λF=>nA F B cLPick) λ_ _ _ _ _ _ us hl=>match us,hl with | [_,_],_=>rfl
 have cLSomeWeb:=h16.cal l.prog w base X G (λF=>lF F B cLPick cLOneway) λ_ _ _ _ _ _ us hl=>match us,hl with | [_],_=>rfl
 have cLSomeArrows:=h18.cal l.prog w base X G (λF=>iq F B cLPick) λ_ _ _ _ _ _ us hl=>match us,hl with | [_,_],_=>rfl
 have cLNoRound:=h14.cal l.prog w base X G (λF=>lH F B) λ_ _ _ _ _ _ us hl=>match us,hl with | [_,_],_=>rfl
 have cLFull:=h17.cal l.prog w base X G (λF=>qv F B cLPick) λ_ _ _ _ _ _ us hl=>match us,hl with | [_],_=>rfl
 have cOutLists:=h1.cal l.prog w base X G (λF=>lB F B) λ_ _ _ _ _ _ us hl=>match us,hl with | [_],_=>rfl
 have cTurnedArrows:=h3.cal l.prog w base X G (λF=>gT F B) λ_ _ _ _ _ _ us hl=>match us,hl with | [_],_=>rfl
 have cInLists:=h2.cal l.prog w base X G (λF=>nz F B cOutLists cTurnedArrows) λ_ _ _ _ _ _ us hl=>match us,hl with | [_],_=>rfl
 have cFirstRanks:=h4.cal l.prog w base X G (λF=>jC F B cOutLists cInLists) λ_ _ _ _ _ _ us hl=>match us,hl with | [_],_=>rfl
 have cHasRanks:=h5.cal l.prog w base X G (λF=>lE F B cFirstRanks) λ_ _ _ _ _ _ us hl=>match us,hl with | [_],_=>rfl
 have cWithoutArrows:=h6.cal l.prog w base X G (λF=>fY F B) λ_ _ _ _ _ _ us hl=>match us,hl with | [_,_],_=>rfl
 have cArrowsClear:=h7.cal l.prog w base X G (λF=>ik F B cHasRanks cWithoutArrows) λ_ _ _ _ _ _ us hl=>match us,hl with | [_,_],_=>rfl
 have xLook:=h8.t7 l.prog w base X G (λF=>hW F B Z cArrowsClear) λ_ _ _ _ _ _ us hl=>match us,hl with | [_,_],_=>rfl
 have xOrder:=h10.t7 l.prog w base X G (λF=>hZ F B Z xLook cFirstRanks cWithoutArrows) λ_ _ _ _ _ _ us hl=>match us,hl with | [_,_],_=>rfl
 have cLSaid:=h20.cal l.prog w base X G (λF=>qD F B Z xOrder) λ_ _ _ _ _ _ us hl=>match us,hl with | [_,_],_=>rfl
 have cTurnedAbout:=h9.cal l.prog w base X G (λF=>ip F B) λ_ _ _ _ _ _ us hl=>match us,hl with | [_,_],_=>rfl
 have cLAlone:=h15.cal l.prog w base X G (λF=>o7 F B Z) λ_ _ _ _ _ _ us hl=>match us,hl with | [_,_],_=>rfl
 have cLFirst:=h19.cal l.prog w base X G (λF=>o6 F B) λ_ _ _ _ _ _ us hl=>match us,hl with | [_,_],_=>rfl
 exact ud F21 B cLDeal cLSomeWeb cLSomeArrows cLNoRound cLFull cArrowsClear cLSaid cLPick cTurnedAbout cLAlone cLFirst
theorem walk {l:PySem.W.OpenLaw}{q:uM}{loose:List Str}{XP:(Str->Option ug)->Heap->Prop}{YP:vt->Heap->Prop}{d:DefRec}{K:Params->uh}(hn:l.most=some 63)(hdf:d.params.defaults=[])
  (hY:∀(w:vt) (h:Heap),YP w h->(K w.params).In h)
  (F:∀(w:vt) (mg:Str->Option ug) (fa:Addr) (h:Heap),(K w.params).In h->h.Ns vb mg->mg d.name=some (.ref fa) →
   ∃fd:vD,(∀(s:uj) (u:ug),BindsTo s fd ⟨[u],[]⟩ [("script",u)])/\∀base:Heap,(K w.params).In base->base.Ns vb mg->bF l.prog w (K w.params) mg base CX0 9 fa fd ["script"] (kz (K w.params))) :
  PySem.W.WalkO q loose XP YP l.row.toRowW d [] (λf vs=>PySem.call f vs) :=
 L2.pI (n:=63) (k:=9) (x := "script") (CX:=λ_=>CX0) (sp:=λw=>kz (K w.params)) hn (by decide) hdf ⟨rfl,by decide,by decide⟩ hY F (λ_ _ a ns hl _ hS=>⟨a,ns,rfl,hS,hl,λ_=>rfl⟩) λ_ _ _ _ _ z=>z
end K70
def PySem.W.Fast.tw2698086702094908342:Nat:=0
def PySem.W.Fast.tw12217626308361958280:Nat:=0
def PySem.W.Fast.tw4590927605570261987:Nat:=0
def PySem.W.Fast.tw14799097823024237699:Nat:=0
def PySem.W.Fast.tw17188415070291359750:Nat:=0
def PySem.W.Fast.tw10698682710408221474:Nat:=0
def PySem.W.Fast.tw5163289522852057122:Nat:=0
def PySem.W.Fast.tw8168325465020985962:Nat:=0
def PySem.W.Fast.tw13434569751745546121:Nat:=0
def PySem.W.Fast.tw5316769887208627737:Nat:=0
def PySem.W.Fast.tw2122705702582830070:Nat:=0
def PySem.W.Fast.tw14107522390189113904:Nat:=0
def PySem.W.Fast.tw1690769995516996056:Nat:=0
def PySem.W.Fast.tw11565818157565454157:Nat:=0
def PySem.W.Fast.tw5772220868564900194:Nat:=0
def PySem.W.Fast.tw6654282182495353365:Nat:=0
def PySem.W.Fast.tw152846381895180066:Nat:=0
def PySem.W.Fast.tw1022846757366753615:Nat:=0
def PySem.W.Fast.tw3336658015349034290:Nat:=0
def PySem.W.Fast.tw3671177691303776540:Nat:=0
def PySem.W.Fast.tw7948090133511884252:Nat:=0
def PySem.W.Fast.tw3056790303531142422:Nat:=0
def PySem.W.Fast.tw1201987164823275234:Nat:=0
def PySem.W.Fast.tw14255022091104738268:Nat:=0
def PySem.W.Fast.tw18251208258882871190:Nat:=0
def PySem.W.Fast.tw16387011650026072359:Nat:=0
def PySem.W.Fast.tw5649567871533841547:Nat:=0
def PySem.W.Fast.tw3169027997495434424:Nat:=0
def PySem.W.Fast.tw4772531265281663254:Nat:=0
def PySem.W.Fast.tw5150916731339033518:Nat:=0
def PySem.W.Fast.tw3304130859342005424:Nat:=0
def PySem.W.Fast.tw1389328817873077918:Nat:=0
def PySem.W.Fast.tw12285197142575437332:Nat:=0
def PySem.W.Fast.tw17436881150811878800:Nat:=0
def PySem.W.Fast.tw1570484713198546512:Nat:=0
def PySem.W.Fast.tw17153227432696749220:Nat:=0
def PySem.W.Fast.tw15951963101993125405:Nat:=0
def PySem.W.Fast.tw13087079418782165782:Nat:=0
def PySem.W.Fast.tw7789230495948060576:Nat:=0
def PySem.W.Fast.tw14695398799264860071:Nat:=0
def PySem.W.Fast.tw14529448883729519383:Nat:=0
def PySem.W.Fast.tw3887156240641954922:Nat:=0
def PySem.W.Fast.tw4316538712541839612:Nat:=0
def PySem.W.Fast.tw10331641945103160490:Nat:=0
def PySem.W.Fast.tw11836984900100327662:Nat:=0
def PySem.W.Fast.tw7960034588420983900:Nat:=0
def PySem.W.Fast.tw7658772312714524232:Nat:=0
def PySem.W.Fast.tw258550021745538206:Nat:=0
def PySem.W.Fast.tw12827052968362707868:Nat:=0
def PySem.W.Fast.tw4724128109768428202:Nat:=0
def PySem.W.Fast.tw6242456137949637915:Nat:=0
def PySem.W.Fast.tw3235993996068798580:Nat:=0
def PySem.W.Fast.tw11625952156757093764:Nat:=0
def PySem.W.Fast.tw11212176918888514920:Nat:=0
def PySem.W.Fast.tw12106553606112337254:Nat:=0
def PySem.W.Fast.tw11786572257764595117:Nat:=0
def PySem.W.Fast.tw1525459665786953511:Nat:=0
def PySem.W.Fast.tw17680483330198356812:Nat:=0
def PySem.W.Fast.tw455428472858892796:Nat:=0
def PySem.W.Fast.tw2313381136276384217:Nat:=0
def PySem.W.Fast.tw3203278277861556843:Nat:=0
def PySem.W.Fast.tw3492101566220292626:Nat:=0
def PySem.W.Fast.tw9656016023495658676:Nat:=0
def PySem.W.Fast.tw805030900367864039:Nat:=0
def PySem.W.Fast.tw12622813160634866828:Nat:=0
def PySem.W.Fast.tw426466717408108034:Nat:=0
def PySem.W.Fast.tw12525548912408214262:Nat:=0
def PySem.W.Fast.tw7353580622208029246:Nat:=0
def PySem.W.Fast.tw1958349493015638415:Nat:=0
def PySem.W.Fast.tw17560274226648160190:Nat:=0
def PySem.W.Fast.tw5678156342561263152:Nat:=0
def PySem.W.Fast.tw12864440367643799387:Nat:=0
def PySem.W.Fast.tw8647524968541734114:Nat:=0
def PySem.W.Fast.tw7795632449975518253:Nat:=0
def PySem.W.Fast.tw13002320483082530970:Nat:=0
def PySem.W.Fast.tw10834574529098193257:Nat:=0
def PySem.W.Fast.tw7216204070049893845:Nat:=0
def PySem.W.Fast.tw9587964189601090042:Nat:=0
def PySem.W.Fast.tw10989305835840744557:Nat:=0
def PySem.W.Fast.tw6807186983622606288:Nat:=0
def PySem.W.Fast.tw14902123845997257746:Nat:=0
def PySem.W.Fast.tw1921728851776902677:Nat:=0
def PySem.W.Fast.tw7003366474483867523:Nat:=0
def PySem.W.Fast.tw5259165854248583658:Nat:=0
def PySem.W.Fast.tw16055079928007163261:Nat:=0
def PySem.W.Fast.tw1823627048042071303:Nat:=0
def PySem.W.Fast.tw10101033638735352777:Nat:=0
def PySem.W.Fast.tw8142345912975201984:Nat:=0
def PySem.W.Fast.tw12302874407636135129:Nat:=0
def PySem.W.Fast.tw7429415534164118056:Nat:=0
def PySem.W.Fast.tw8523345372375569233:Nat:=0
def PySem.W.Fast.tw5285954976848334081:Nat:=0
def PySem.W.Fast.tw18277797445436645248:Nat:=0
def PySem.W.Fast.tw9827624936335225940:Nat:=0
def PySem.W.Fast.tw11088963833041484316:Nat:=0
def PySem.W.Fast.tw16831231828463233851:Nat:=0
def PySem.W.Fast.tw13087047799713601755:Nat:=0
def PySem.W.Fast.tw634299740014464673:Nat:=0
def PySem.W.Fast.tw13701863493628473301:Nat:=0
def PySem.W.Fast.tw12103134710234865052:Nat:=0
def PySem.W.Fast.tw12875754617870663035:Nat:=0
def PySem.W.Fast.tw4160416316293278046:Nat:=0
def PySem.W.Fast.tw7159063942372029526:Nat:=0
def PySem.W.Fast.tw8970692178427025025:Nat:=0
def PySem.W.Fast.tw15774931042266185862:Nat:=0
def PySem.W.Fast.tw3937505842193156403:Nat:=0
def PySem.W.Fast.tw16427418335110210785:Nat:=0
def PySem.W.Fast.tw10248769464517035187:Nat:=0
def PySem.W.Fast.tw4962604367333846647:Nat:=0
def PySem.W.Fast.tw3238149320270698036:Nat:=0
def PySem.W.Fast.tw5033065051827631896:Nat:=0
def PySem.W.Fast.tw15604173444280738570:Nat:=0
def PySem.W.Fast.tw15588929825561828355:Nat:=0
def PySem.W.Fast.tw1093450826463994586:Nat:=0
def PySem.W.Fast.tw2736336143039722618:Nat:=0
def PySem.W.Fast.tw5395009355085296476:Nat:=0
def PySem.W.Fast.tw7888944683779178187:Nat:=0
def PySem.W.Fast.tw2150782745750208664:Nat:=0
def PySem.W.Fast.tw13101296661501003650:Nat:=0
def PySem.W.Fast.tw11077379895782493423:Nat:=0
def PySem.W.Fast.tw11129489643541026859:Nat:=0
def PySem.W.Fast.tw4707735376892778740:Nat:=0
def PySem.W.Fast.tw9553329458215324634:Nat:=0
def PySem.W.Fast.tw10727305014394579697:Nat:=0
def PySem.W.Fast.tw2854234476618185168:Nat:=0
def PySem.W.Fast.tw11701363469571020924:Nat:=0
def PySem.W.Fast.tw17124995481652057345:Nat:=0
def PySem.W.Fast.tw5108972457712921671:Nat:=0
def PySem.W.Fast.tw3333524722743871766:Nat:=0
def PySem.W.Fast.tw8090190852656267503:Nat:=0
def PySem.W.Fast.tw2757417581807951393:Nat:=0
def PySem.W.Fast.tw340397441857339427:Nat:=0
def PySem.W.Fast.tw9658620033016195557:Nat:=0
def PySem.W.Fast.tw7498138451535752952:Nat:=0
def PySem.W.Fast.tw9415919692574923391:Nat:=0
def PySem.W.Fast.tw4301547153183493146:Nat:=0
def PySem.W.Fast.tw13604471978970104578:Nat:=0
def PySem.W.Fast.tw7717359424165233600:Nat:=0
def PySem.W.Fast.tw17718404027341851153:Nat:=0
def PySem.W.Fast.tw11059237547857030171:Nat:=0
def PySem.W.Fast.tw18233980307303592919:Nat:=0
def PySem.W.Fast.tw14537617840472946010:Nat:=0
def PySem.W.Fast.tw4737573010721190635:Nat:=0
def PySem.W.Fast.tw1217703009184369796:Nat:=0
def PySem.W.Fast.tw11779132178176925945:Nat:=0
def PySem.W.Fast.tw1875994810797756055:Nat:=0
def PySem.W.Fast.tw202005850180007707:Nat:=0
def PySem.W.Fast.tw11166607120717967872:Nat:=0
def PySem.W.Fast.tw12534832121920739468:Nat:=0
def PySem.W.Fast.tw3061622159293424138:Nat:=0
def PySem.W.Fast.tw825137947493968250:Nat:=0
def PySem.W.Fast.tw9509369713892487521:Nat:=0
def PySem.W.Fast.tw2510205540041226471:Nat:=0
def PySem.W.Fast.tw16651034639522643919:Nat:=0
def PySem.W.Fast.tw1876513421270226880:Nat:=0
def PySem.W.Fast.tw13460374656695502358:Nat:=0
def PySem.W.Fast.tw10082377325585419596:Nat:=0
def PySem.W.Fast.tw1825913780517219200:Nat:=0
def PySem.W.Fast.tw1773700378257213344:Nat:=0
def PySem.W.Fast.tw12647425178083907244:Nat:=0
def PySem.W.Fast.tw3064288401366274432:Nat:=0
def PySem.W.Fast.tw1256059331230957589:Nat:=0
def PySem.W.Fast.tw6840985876278954545:Nat:=0
def PySem.W.Fast.tw6523677702075212667:Nat:=0
def PySem.W.Fast.tw6280488163851959788:Nat:=0
def PySem.W.Fast.tw18058286990040843349:Nat:=0
def PySem.W.Fast.tw6152464206108745389:Nat:=0
def PySem.W.Fast.tw16984607507100729057:Nat:=0
def PySem.W.Fast.tw9756000430821068802:Nat:=0
def PySem.W.Fast.tw86960300828614810:Nat:=0
def PySem.W.Fast.tw11607361076655346277:Nat:=0
def PySem.W.Fast.tw8569883544172728002:Nat:=0
def PySem.W.Fast.tw17017434737056713634:Nat:=0
def PySem.W.Fast.tw13497148188592692146:Nat:=0
def PySem.W.Fast.tw2867145486354395869:Nat:=0
def PySem.W.Fast.tw8875735575592007926:Nat:=0
open PySem PySem.W PyProof.Rows
set_option maxRecDepth 100000 in
set_option maxHeartbeats 0 in
theorem PySem.Challenge.cw_ringfell_k70_arrows_that_clear_holds : PySem.Challenge.rw_ringfell_k70_arrows_that_clear.Holds := by
 w_on;o_law;k_head;(case hw=>w_witness2)
 k_fill
 refine K70.walk (l:=PySem.Challenge.rw_ringfell_k70_arrows_that_clear) rfl rfl (λw h Y=>PySem.W.kIn_of Y) ?F
 case F =>
  intro w mg fa h KX G hmg
  refine' K70.all_mk KX G hmg ?_ ?_ ?_ ?_ ?_ ?_ ?_ ?_ ?_ ?_ ?_ ?_ ?_ ?_ ?_ ?_ ?_ ?_ ?_ ?_ ?_ ?_ ?_ ?_ ?_ ?_ ?_ ?_ ?_ ?_ ?_ ?_ ?_ ?_ ?_ ?_ ?_ ?_ ?_ ?_ ?_ ?_ ?_ ?_ ?_ ?_ ?_ ?_ ?_ ?_ ?_ ?_ ?_ ?_ ?_ ?_ ?_ ?_ ?_ ?_ ?_ ?_ ?_ ?_ ?_ ?_ ?_
  any_goals k_is
  any_goals (refine' L2.bQ.mk ?a ?l ?c ?k;(case a=>k_is);(case l=>k_is);(case c=>k_is);(case k=>k_is))
  all_goals kernel_rfl
