import PyProof.Rows.All
import Wide.All
import OpenK.AllK
import Wide.FinOn
import Lean
import PyProof.EqAt
import PyProof.EqKinds
import PyProof.TupleCall
import KE.KRevIter
import PyProof.MinMaxWalk
import PySem.Challenge.RW_ringfell_k31_trees_judged
open PySem.W renaming Frag → wc,mg_none_of → xr,nsIn → xP,kia_one → yn,mg_of → Bx,cellsFrom_some → BE,kat_nil → BS,callWith_K → Cs,kitx_list → CP,kitx_dict → CQ
open List renaming length_map → wd,length_append → wj,size_toArray → wk,mem_singleton → wx,getElem?_eq_getElem → wz,map_append → wB,mem_append → wC,getD_eq_getElem?_getD → wD,getElem?_eq_some_iff → wF,mem_of_getElem? → wR,mem_cons_self → wY,mem_cons → wZ,mem_append_right → xb,append_assoc → xc,mem_cons_of_mem → xf,getElem?_map → xh,length_cons → xn,map_cons → xv,replicate → xA,getElem?_toArray → xC,mem_range → xD,range → xE,mem_iff_getElem? → xI,append_nil → xM,take_sublist → xR,drop_sublist → xS,length_singleton → xU,length_pos_iff → xW,length_take → xX,mem_append_left → yb,pairwise_append → yc,take_of_length_le → yd,replicate_succ → ye,extract_eq_take_drop → yo,length_drop → yp,all_eq_true → yq,flatten_cons → yu,mem_map → yv,getElem?_take → yz,getElem_mem → yD,take_length → yE,length_range → yG,take_append_drop → yK,mem_of_mem_drop → yN,mem_of_mem_take → yO,pairwise_singleton → yQ,take_add_one → yS,pairwise_map → yT,getElem?_append_right → yZ,getElem?_append_left → y9,length_reverse → zt,getElem?_cons_succ → zu,drop_append_of_le_length → zy,any_eq_true → zz,getElem?_drop → zD,length_nil → zH,perm_append_comm → zK,map_take → zP,pairwise_iff_getElem → zT,lookup_cons → zU,filterMap_cons → zW,reverse_append → zX,mem_map_of_mem → zY,nodup_cons → Ab,nil_append → Ad,length_eq_zero_iff → Ae,filter_cons_of_pos → Ag,filter_cons_of_neg → Ah,getElem?_set_self → Ak,length_replicate → As,take_append_of_le_length → Aw,not_mem_nil → Ay,length_set → AG,getElem_of_mem → AL,perm_ext_iff_of_nodup → AU,mem_filterMap → AW,set_set → AY,all_map → A0,filter_append → A3,getElem?_zip_eq_some → A6,getElem?_eq_none_iff → A7,drop_eq_getElem_cons → A8,drop_zero → Ba,take_zero → Bb,drop_left → Bc,find?_range_eq_none → Bl,drop_eq_nil_of_le → BH,mem_filter → BL,of_mem_zip → BM,foldl_cons → BN,contains_iff_mem → BU,getElem?_eq_none → BV,getElem?_reverse → BX,sum_append → B0,any_map → B1,getElem?_set_ne → Ca,reverse_reverse → Cc,map_eq_nil_iff → Ck,any_cons → Cv,pairwise_cons → Cz,zip_cons_cons → CC,map_drop → CD,reverse_cons → CS,ext_getElem? → CY,nodup_append → C0,map_set → C4,perm_middle → Dc,nodup_range → Df,ext_getElem → Dh,map_reverse → Di,length_zip → Dk,drop_drop → Du,all_cons → DG,sum_cons → DI,map_nil → DJ,map_map → DL
open PySem.Heap renaming get?_push_of_some → we,get?_push_size → wH,lt_size → wJ,get?_update_other → yk,size_push → yR,get?_update_self → y8,get?_update_ne → Cj
open PySem renaming wpAny_bind → wg,Value → wm,sizeLine → wo,Shared → wu,wpAny_pure → wA,Program → wL,wpAny → wX,World → xg,model → xk,mainGlobals → xw,FuncData → xB,Around → xF,wpAny_newObj_type → xG,bootBuiltins → xJ,starEach → xO,compareOp → xY,codeAny_builtin → yg,wpAny_truthy_bool → yh,wpAny_holding → yi,wpAny_call_entry → yt,wpAny_pyIter_tuple → yB,wpAny_callSpecial?_slot → yC,intItems → yL,mem_of_lookup → yX,wpAny_field → zc,wpAny_mono → zi,wpAny_passesOwn → zj,plainId_quiet → zx,richCompare_meets_room → zB,wpAny_Call_Name_kw → zE,wpAny_pyIter_list → zR,wpAny_rule → zS,codeAny_mono → z8,wpAny_typeOf → z9,numAt_eq → Ai,wpAny_seqItems → Aq,wpAny_forIn_list → AA,wpAny_execs_nil → AM,wpAny_letOwnedTupleGo_enum → AV,wpAny_runValue → Bg,isSubtype_type → Bh,wpAny_tryCatch → Bi,wpAny_sequenceKey → Bo,backTo → Bp,intItems_at → BA,codeAny → BB,noFill_tuple_add → BD,wpAny_Call_method_late → BK,wpAny_isTrue_Compare1 → B3,concat_meets → B4,codeAny_of_tree → B5,weight_type_call_type → B6,wpAny_updateSeq → B7,intKind_is → B9,codeAny_call_builtin → Ce,wpAny_pyIter_revIter → Cf,wpAny_letGo → Cp,wpAny_standAt → CI,seq_tuple_add → CJ,evalPart_none → CL,wpAny_newList → CN,call_meets → C1,wpAny_pyIter_slot → C2,holding → C3,seqIndex_neg → C6,sizeLine_eq → Dm,seqIndex_of → Dn,wpAny_of_eq → Dp,wpAny_Name → DA,wpAny_load → DB,wpAny_call → DC,typeIs_int → DD,rawInt → DE
open Nat renaming le_refl → wq,lt_of_lt_of_le → wO,ne_of_lt → wV,le_trans → xx,zero_le → xH,lt_irrefl → xK,lt_succ_of_lt → x6,lt_succ_self → yr,le_sub_one_of_lt → yP,le_add_right → y6,ne_of_gt → y7,zero_add → zo,add_sub_cancel_left → zr,eq_zero_of_not_pos → zA,lt_of_succ_lt → zN,le_of_lt_succ → zQ,lt_of_not_le → zV,succ_pos → z5,le_succ_of_le → Ap,le_of_lt → Ar,sub_one_lt_of_lt → AB,mod_lt → AE,add_le_add_left → AJ,lt_of_le_of_lt → AX,add_le_add → Be,le_succ → Bq,le_antisymm → BP,le_of_sub_eq_zero → BQ,min_self → BR,not_lt_zero → BZ,lt_of_le_of_ne → CA,pos_of_ne_zero → CB,sub_pos_of_lt → CV,le_of_succ_le → CW,le_of_not_lt → C9,succ_le_succ → Dd,add_assoc → DH
open Array renaming length_toList → wy,getElem?_toList → wI,toList_append → xp,mem_toList_iff → xq,size_map → xT,getElem?_eq_getElem → x9,getD_eq_getD_getElem? → yA,getElem?_eq_some_iff → yF,toList_extract → yM,toList_reverse → zd,toList_push → zf,size_push → zL,size_append → zO,getElem?_eq_none → An,toList_map → Ax,toList_setIfInBounds → AR,perm_iff_toList_perm → AS,size_setIfInBounds → Bk,getElem?_replicate → Bm,toList_inj → De
open Bool renaming false_ne_true → wG,and_eq_true → xQ,false_eq_true → yx,eq_false_iff → yU,eq_iff_iff → ze,not_true → Bs
open PyProof.Rows renaming wpS_bind → wK,Keyed → wM,wpS_pure → wQ,arrOf → wU,pendingOf → wW,SortSt → w9,slot_tuple_getitem → xu,wpS_forRange → xV,callWith_type1 → yw,wpS_mono → yI,wpS_modify → yV,IntsAre → Aj,reverseSlice'_eq → Az,args_tuple_getitem → A4,KeyOrd → A5,slicePart_none → Bf,wpS_get → Bz,subscriptTail_builtinR → BJ,wpS_lift → B8,getElem?_mirror_all → Co,tupleItemsOf_ → CK,listUpdate_at → CM,listItems_at → C7
open PySem.Value renaming ref → wN,int → xZ,none → yW,type → AF,isInt_shape → CO
open PyProof.Rows.KeyOrd renaming kle_trans → xo,kle_of_klt → x8,kle_refl → yy,kle_antisymm → Ci
open Option.some renaming inj → xt
open PySem.PassesOwn renaming never → xN
open PySem.F renaming called_set → yf,plain_min_loop → yl,slot_tuple_iterator_next → y3,slot_list_append → zg,type_list_append → zh,plainAttrs_list → zw,slot_enumerate_iter → zI,slot_enumerate_next → zJ,args_tuple_add_2 → zZ,slot_tuple_count → z7,entry_tuple_add → Ac,slot_tuple_add → Am,entry_min_loop → Ao,slot_range_contains → Au,args_tuple_iterator_next_1 → AD,entry_tuple_iterator_next → AH,type_tuple_count → Bn,args_enumerate_iter_1 → Br,plain_list_iadd → Bv,args_list_eq_2 → BC,entry_enumerate_iter → BG,typeCall_set_1 → BI,entry_list_eq → BW,mro_reversed → Cd,slot_list_eq → Cg,entry_type_call → CZ,entry_set_init → Dg,slot_int_rmul → Dj,plain_set_new → Dl
open PySem.Around renaming under_plainId → yj,under_plain → CG
open Iff renaming rfl → yH
open List.Perm renaming append_left → yJ,append_right → yY,refl → A9
open PySem.SeqAt renaming EqAt → zk,list_eq_lengthsAt → Bw
open List.Nodup renaming length_le_of_subset → zp
open PySem.Paired renaming length → zq
open PyProof.Rows.F renaming plain_set_update_loop → zv,entry_set_update_loop → Bt
open PySem.SeqAt.EqAt renaming int_int → zC,same → zG,int_str → Cq,str_int → Cr,str_str → Cu,of_refs → Cw
open Ne renaming symm → zF
open PySem.Builtin.List renaming listExtendWith → zM
open List.Pairwise renaming imp_of_mem → z6,imp → DP
open PySem.Obj renaming mapSeq → Aa,data_mapFields → Cy
open Int renaming emod_lt_of_pos → Af,emod_nonneg → AK,fdiv_eq_ediv_of_nonneg → AO,fmod_eq_emod_of_nonneg → AQ,zero_add → B2,toNat_natCast → CU,add_zero → C5
open PySem.SeqAt.RcAt renaming lists → Av,tuples → CT
open PySem.Heap.SameBut renaming update → AI
open PySem.Calls renaming Name_function_global → AN,callWith_builtin → BF,evalArgs_plain → Cb
open PySem.Code renaming quiet_builtin → AZ
open Classical renaming byContradiction → Bd
open Option renaming isSome_iff_exists → Bj,map_some → BO,getD_none → C8
open PySem.Walks renaming tuple → Cm,list → Dz
open PySem.SeqAt.RcNeAt renaming tuples → Cn,lists → CH
open PySem.Heap.IsSliceOf renaming new → Ct
open PySem.EqMixed renaming eq_bool_str → Dq,eq_str_bool → Dr,ne_bool_str → Ds,ne_str_bool → Dt,eq_int_str → Dv,eq_str_int → Dw,ne_int_str → Dx,ne_str_int → Dy
open Prod renaming ext → DF
open PySem.W.Looks renaming of_pure → DK
open PySem.W.KatTups renaming cons → DM
open PySem.Moved renaming trans → DN
set_option Elab.async false
set_option linter.all false
set_option maxRecDepth 100000
namespace L2
open PySem PySem.Spec PyProof.Rows
abbrev Key:=Sum Int Str
def t8:Key->wm->Bool
 | .inl k,v=>Value.isInt k v
 | .inr x,v=>Value.isStrOf x v
def keyH (w:xg):Key->Int
 | .inl k=>hashInt k
 | .inr x=>hashStr w x
theorem bA:∀{k:Key} {v:wm},t8 k v=true->(∃i t,k=Sum.inl i/\v=xZ i t)\/(∃x t,k=Sum.inr x/\v=Value.str x t)
 | .inl i,v,h=>by
  obtain ⟨t,e⟩:=CO (k:=i) (v:=v) h
  exact .inl ⟨i,t,rfl,e⟩
 | .inr x,v,h=>by
  obtain ⟨t,e⟩:=Value.isStrOf_shape (x:=x) (v:=v) h
  exact .inr ⟨x,t,rfl,e⟩
theorem uj (a b:Int):decide ((Sum.inl a:Key)=Sum.inl b)=(a == b):=by
 by_cases e:a=b
 ·subst e;simp
 ·have h:¬ (Sum.inl a:Key)=Sum.inl b:=λq=>e (Sum.inl.inj q)
  rw[decide_eq_false h]
  exact (beq_eq_false_iff_ne.mpr e).symm
theorem uo (a b:Str):decide ((Sum.inr a:Key)=Sum.inr b)=decide (a=b):=by
 by_cases e:a=b
 ·subst e;simp
 ·have h:¬ (Sum.inr a:Key)=Sum.inr b:=λq=>e (Sum.inr.inj q)
  rw[decide_eq_false h,decide_eq_false e]
theorem uq (a:Int)(b:Str):decide ((Sum.inl a:Key)=Sum.inr b)=false:=decide_eq_false (λq=>nomatch q)
theorem uu (a:Str)(b:Int):decide ((Sum.inr a:Key)=Sum.inl b)=false:=decide_eq_false (λq=>nomatch q)
def nV (prog:wL)(w:xg):PySem.KeyKind prog w Key where
 is:=t8
 hash:=keyH w
 inj:=λv a b ha hb=>by
  rcases bA ha with ⟨i,t,rfl,rfl⟩ | ⟨x,t,rfl,rfl⟩
  ·rcases bA hb with ⟨j,u,rfl,e⟩ | ⟨y,u,rfl,e⟩
   ·injection e with e1 _;rw[e1]
   ·exact nomatch e
  ·rcases bA hb with ⟨j,u,rfl,e⟩ | ⟨y,u,rfl,e⟩
   ·exact nomatch e
   ·injection e with e1 _;rw[e1]
 byValue:=λk v h=>by
  rcases bA h with ⟨i,t,rfl,rfl⟩ | ⟨x,t,rfl,rfl⟩ <;> rfl
 pyHash:=λhv h=>by
  rcases bA hv with ⟨i,t,rfl,rfl⟩ | ⟨x,t,rfl,rfl⟩
  ·exact wpAny_pyHash_int h
  ·exact wpAny_pyHash_str h
 eqBool:=λhu hv h=>by
  rcases bA hu with ⟨i,t,rfl,rfl⟩ | ⟨x,t,rfl,rfl⟩
  ·rcases bA hv with ⟨j,u,rfl,rfl⟩ | ⟨y,u,rfl,rfl⟩
   ·rw[uj] at h;exact wpAny_eqBool_int h
   ·rw[uq] at h;exact Cq i t y u _ _ _ _ h
  ·rcases bA hv with ⟨j,u,rfl,rfl⟩ | ⟨y,u,rfl,rfl⟩
   ·rw[uu] at h;exact Cr x t j u _ _ _ _ h
   ·rw[uo] at h;exact wpAny_eqBool_str h
 «strs» := λk x t v h=>by
  rcases bA h with ⟨i,u,rfl,e⟩ | ⟨y,u,rfl,e⟩
  ·exact nomatch e
  ·injection e with e1 _
   subst e1
   cases v <;> rfl
open PySem PySem.Spec PyProof.Rows
inductive V where
 | non | bl (b:Bool) | int (i:Int) | str (x:Str) | byt (b:Array UInt8) | flt (b:UInt64) | ref (a:Addr) | ty (n:String)
 deriving DecidableEq
def RelV:V->wm->Prop
 | .non,u=>u=yW
 | .bl b,u=>u=Value.bool b
 | .int i,u=>∃t,u=xZ i t
 | .str x,u=>∃t,u=Value.str x t
 | .byt b,u=>∃t,u=Value.bytes b t
 | .flt b,u=>∃t,u=Value.float b t
 | .ref a,u=>u=wN a
 | .ty n,u=>u=AF n
abbrev Vals:List V->List wm->Prop:=Paired RelV
theorem Vals.length {xs:List V}{us:List wm}(r:Vals xs us):xs.length=us.length:=zq r
theorem Vals.get:∀{xs:List V} {us:List wm} {i:Nat} {x:V},Vals xs us->xs[i]? = some x->∃u,us[i]? = some u/\RelV x u
 | _,_,_,_,.nil,e=>by simp at e
 | _,_,0,_,.cons r _,e=>by simp at e;subst e;exact ⟨_,rfl,r⟩
 | _,_,i+1,x,.cons _ t,e=>by
  obtain ⟨u,h1,h2⟩:=Vals.get (i:=i) (x:=x) t (by simpa using e)
  exact ⟨u,by simpa using h1,h2⟩
theorem Vals.set {x:V}{u:wm}(r:RelV x u):∀{xs:List V} {us:List wm} (i:Nat),Vals xs us->Vals (xs.set i x) (us.set i u)
 | _,_,_,.nil =>.nil
 | _,_,0,.cons _ t =>.cons r t
 | _,_,i+1,.cons q t =>.cons q (Vals.set r i t)
theorem Vals.append:∀{xs ys:List V} {us ws:List wm},Vals xs us->Vals ys ws->Vals (xs++ys) (us++ws)
 | _,_,_,_,.nil,s=>s
 | _,_,_,_,.cons r t,s =>.cons r (Vals.append t s)
theorem Vals.take:∀{xs:List V} {us:List wm} (n:Nat),Vals xs us->Vals (xs.take n) (us.take n)
 | _,_,0,_ =>.nil
 | _,_,_+1,.nil =>.nil
 | _,_,n+1,.cons r t =>.cons r (Vals.take n t)
theorem Vals.drop:∀{xs:List V} {us:List wm} (n:Nat),Vals xs us->Vals (xs.drop n) (us.drop n)
 | _,_,0,r=>r
 | _,_,_+1,.nil =>.nil
 | _,_,n+1,.cons _ t=>Vals.drop n t
def uv:Option V->Option wm->Prop
 | some v,some u=>RelV v u
 | none,none=>True
 | _,_=>False
def KV {κ:Type}:List (κ×V)->List (κ×wm)->Prop:=Paired λ(p:κ×V) (q:κ×wm)=>p.1=q.1/\RelV p.2 q.2
def kV:Key->V
 | .inl i =>.int i
 | .inr x =>.str x
inductive HO where
  | lst (xs:List V)
  | tup (xs:List V)
  | dK (kvs:List (Key×V)) | dT (kvs:List (List Key×V))
  | set (S:Int->Bool) (n:Nat)
  | ins (C dx:Addr) (fs:List (Str×V))
  | own (x:Addr)
  | xd (fs:List (Str×V))
  | met (f x:Addr)
  | rng (lo hi:Int)
  | frz (o:Obj) (u:HO)
  | tbl (ps:Array wm)
  | ext (φ:Heap->Prop)
abbrev Hp:=Addr->Option HO
def upd (H:Hp)(a:Addr)(o:HO):Hp:=λb=>if b=a then some o else H b
theorem ae {H:Hp}{a:Addr}{o:HO}:upd H a o a=some o:=by unfold upd;rw[if_pos rfl]
theorem aF {H:Hp}{a b:Addr}{o:HO}(h:b≠a):upd H a o b=H b:=by unfold upd;rw[if_neg h]
theorem jP {H:Hp}{a b:Addr}{o u:HO}(h:H a=some o)(h':H b=some u)(d:o≠u):a≠b:=by
 intro e;subst e;rw[h] at h';exact d (xt h')
theorem aR {H:Hp}{a b:Addr}{o:HO}(h:H a=some o)(h':H b=none):a≠b:=by
 intro e;subst e;rw[h] at h';cases h'
def cV (h:Heap)(a:Addr)(items:Array wm):Prop:=∃o,h.get? a=some o/\(o.cls = .type "tuple" /\ o.dict=none)/\∃n,o.data = .seq items n
theorem cV.tup {h:Heap}{a:Addr}{items:Array wm}(x:cV h a items):IsTup h a items:=let ⟨o,e,c,n,d⟩:=x;⟨o,e,c.1,n,d⟩
theorem cV.new (h:Heap)(items:Array wm):cV (h.push { cls :=.type "tuple",data :=.seq items }) h.objs.size items:=⟨_,wH _ rfl,⟨rfl,rfl⟩,_,rfl⟩
section
variable  (P:wL)(w:xg)
def bG (H:Hp)(h:Heap)(a:Addr):HO->Prop
 | .lst xs=>xs.length<=wo/\∃(its:List wm) (n:Nat),Vals xs its/\h.get? a=some { cls :=.type "list",data :=.seq its.toArray n }
 | .tup xs=>xs.length<=wo/\∃its:List wm,Vals xs its/\cV h a its.toArray
 | .dK kvs=>kvs.length<=wo/\(a == sysModules)=false/\∃vs,KV kvs vs/\h.DictOf (nV P w) a vs
 | .dT kvs=>kvs.length<=wo/\(a == sysModules)=false/\∃xs:List (List Key×Addr×wm),
   Paired (λ(p:List Key×V) (q:List Key×Addr×wm)=>p.1=q.1/\H q.2.1=some (.tup (p.1.map kV))/\RelV p.2 q.2.2) kvs xs ∧
   ∃o es ep,h.get? a=some o/\o.ExactDict/\o.data = .dict es ep/\es.toList=xs.map (entryOfKey (tupleKind (nV P w)))/\(xs.map (·.1)).Nodup
 | .set S n=>h.SetOf (intKind P w) a S n
 | .ins C dx fs=>H dx=some (.own a)/\fs.length<=1000/\dx≠a/\h.get? a=some (PySem.W.instObj C dx) ∧
   ∃mA,h.Ns1 dx mA/\(∀f,uv (fs.lookup f) (mA f))/\PySem.Within mA (fs.map (·.1))
 | .own _=>∃o,h.get? a=some o
 | .xd fs=>∃mA,h.Ns1 a mA/\∀f,uv (fs.lookup f) (mA f)
 | .rng lo hi=>∃t u v,h.get? a=some { cls :=.type "range",data :=.fields #[.int lo t,.int hi u,.int 1 v] }
 | .frz o u=>h.get? a=some o/\bG H h a u
 | .tbl ps=>h.get? a=some { cls :=.none,data :=.fields ps }
 | .met f x=>h.get? a=some (PySem.W.methodObj (.ref f) (.ref x))
 | .ext φ=>φ h/\(∃o,h.get? a=some o)/\∀h1 h2:Heap, φ h1->(∀o,h1.get? a=some o->h2.get? a=some o) -> φ h2
def HOk (H:Hp)(h:Heap):Prop:=∀a o,H a=some o->bG P w H h a o
end
section
variable  {P:wL}{w:xg}{H H':Hp}{h h':Heap}{a:Addr}{o:HO}
theorem bG.lt (x:bG P w H h a o):a<h.objs.size:=by
 cases o with
 | lst xs=>obtain ⟨_,_,_,_,e⟩:=x;exact wJ e
 | tup xs=>obtain ⟨_,_,_,p⟩:=x;exact (cV.tup p).lt
 | dK kvs=>obtain ⟨_,_,_,_,o,_,_,e,_⟩:=x;exact wJ e
 | dT kvs=>obtain ⟨_,_,_,_,o,_,_,e,_⟩:=x;exact wJ e
 | set S n=>obtain ⟨o,_,_,_,e,_⟩:=x;exact wJ e
 | ins C dx fs=>obtain ⟨_,_,_,e,_⟩:=x;exact wJ e
 | own y=>obtain ⟨_,e⟩:=x;exact wJ e
 | xd fs=>obtain ⟨_,⟨_,_,_,e,_⟩,_⟩:=x;exact wJ e
 | rng lo hi=>obtain ⟨_,_,_,e⟩:=x;exact wJ e
 | frz ob u=>obtain ⟨e,_⟩:=x;exact wJ e
 | tbl ps=>exact wJ (show h.get? a=some _ from x)
 | met f y=>exact wJ (show h.get? a=some _ from x)
 | ext φ=>obtain ⟨_,⟨_,e⟩,_⟩:=x;exact wJ e
theorem Paired.vo {α β:Type}{F G:α -> β -> Prop}:∀{l₁:List α} {l₂:List β},Paired F l₁ l₂->(∀a b,F a b->G a b)->Paired G l₁ l₂
 | _,_,.nil,_ =>.nil
 | _,_,.cons r t,f =>.cons (f _ _ r) (Paired.vo t f)
theorem bG.mL (x:bG P w H h a o)(k:∀b u,(b=a\/H b=some (.own a))->h.get? b=some u->h'.get? b=some u)
  (ho:∀b,H b=some (.own a)->H' b=some (.own a)) (ht:∀b xs,H b=some (.tup xs)->H' b=some (.tup xs)):bG P w H' h' a o:=by
 induction o with
 | lst xs=>obtain ⟨z,its,n,r,e⟩:=x;exact ⟨z,its,n,r,k _ _ (.inl rfl) e⟩
 | tup xs=>obtain ⟨z,its,r,ob,e,c⟩:=x;exact ⟨z,its,r,ob,k _ _ (.inl rfl) e,c⟩
 | dK kvs=>obtain ⟨z,y,vs,r,ob,es,ep,e,c⟩:=x;exact ⟨z,y,vs,r,ob,es,ep,k _ _ (.inl rfl) e,c⟩
 | dT kvs =>
  obtain ⟨z,y,xs,r,ob,es,ep,e,c⟩:=x
  exact ⟨z,y,xs,Paired.vo r λp q z=>⟨z.1,ht _ _ z.2.1,z.2.2⟩,ob,es,ep,k _ _ (.inl rfl) e,c⟩
 | set S n=>obtain ⟨ob,es,ep,t,e,c⟩:=x;exact ⟨ob,es,ep,t,k _ _ (.inl rfl) e,c⟩
 | ins C dx fs =>
  obtain ⟨d,z,ne,e,mA,⟨od,es,ep,e2,c⟩,r⟩:=x
  exact ⟨ho _ d,z,ne,k _ _ (.inl rfl) e,mA,⟨od,es,ep,k _ _ (.inr d) e2,c⟩,r⟩
 | own y=>obtain ⟨ob,e⟩:=x;exact ⟨ob,k _ _ (.inl rfl) e⟩
 | xd fs=>obtain ⟨mA,⟨od,es,ep,e,c⟩,r⟩:=x;exact ⟨mA,⟨od,es,ep,k _ _ (.inl rfl) e,c⟩,r⟩
 | rng lo hi=>obtain ⟨t,u,v,e⟩:=x;exact ⟨t,u,v,k _ _ (.inl rfl) e⟩
 | frz ob u ih=>obtain ⟨e,q⟩:=x;exact ⟨k _ _ (.inl rfl) e,ih q⟩
 | tbl ps =>
  have e:h.get? a=some { cls :=.none,data :=.fields ps }:=x
  show h'.get? a=some { cls :=.none,data :=.fields ps }
  exact k a _ (.inl rfl) e
 | met f y =>
  have e:h.get? a=some (PySem.W.methodObj (.ref f) (.ref y)):=x
  show h'.get? a=some (PySem.W.methodObj (.ref f) (.ref y))
  exact k a _ (.inl rfl) e
 | ext φ=>obtain ⟨p,⟨o,e⟩,st⟩:=x;exact ⟨st _ _ p λo q=>k _ _ (.inl rfl) q,⟨o,k _ _ (.inl rfl) e⟩,st⟩
theorem HOk.lt (x:HOk P w H h)(e:H a=some o):a<h.objs.size:=(x a o e).lt
theorem HOk.fresh (x:HOk P w H h)(e:h.objs.size<=a):H a=none:=by
 cases q:H a with
 | none=>rfl
 | some u=>exact absurd (wO (x.lt q) e) (xK _)
theorem HOk.kept (x:HOk P w H h)(k:∀b u,h.get? b=some u->h'.get? b=some u):HOk P w H h':=λa o e =>
 (x a o e).mL (λb u _ q=>k b u q) (λ_ q=>q) λ_ _ q=>q
theorem HOk.laid (x:HOk P w H h)(k:∀b u,h.get? b=some u->h'.get? b=some u)(hp:h.objs.size<=a)(new:bG P w (upd H a o) h' a o):HOk P w (upd H a o) h':=λb u e=>by
 have hn:=x.fresh hp
 by_cases hb:b=a
 ·subst hb;rw[ae] at e;cases e;exact new
 ·rw[aF hb] at e
  exact (x b u e).mL (λc v _ q=>k c v q) (λc q=>by rw[aF (aR q hn)];exact q) λc xs q=>by rw[aF (aR q hn)];exact q
end
def Rd (H:Hp)(a:Addr)(u:HO):Prop:=H a=some u\/∃o,H a=some (.frz o u)
theorem Rd.ok {P:wL}{w:xg}{H:Hp}{h:Heap}{a:Addr}{u:HO}(r:Rd H a u)(x:HOk P w H h):bG P w H h a u:=by
 rcases r with r | ⟨o,r⟩
 ·exact x a u r
 ·obtain ⟨_,q⟩:=x a _ r
  exact q
def Mut:Option HO->Prop
 | some (.lst _)=>True
 | some (.dK _)=>True
 | some (.dT _)=>True
 | some (.set _ _)=>True
 | some (.ins _ _ _)=>True
 | some (.ext _)=>True
 | _=>False
section
variable  {P:wL}{w:xg}{H:Hp}{h h':Heap}{x e:Addr}{o':HO}
theorem HOk.write (ok:HOk P w H h)(mu:Mut (H x))(he:e=x\/H e=some (.own x))(k:∀b u,b≠e->h.get? b=some u->h'.get? b=some u)(heo:∃u,h'.get? e=some u)
  (new:bG P w (upd H x o') h' x o'):HOk P w (upd H x o') h':=λb u q=>by
 have nown:∀c y,H c=some (.own y)->c≠x:=λc y r z=>by subst z;rw[r] at mu;exact mu
 have ntup:∀c xs,H c=some (.tup xs)->c≠x:=λc xs r z=>by subst z;rw[r] at mu;exact mu
 by_cases hb:b=x
 ·subst hb;rw[ae] at q;cases q;exact new
 ·rw[aF hb] at q
  by_cases hbe:b=e
  ·have q':H b=some (.own x):=by
    rcases he with z | z
    ·exact absurd (hbe.trans z) hb
    ·rw[hbe];exact z
   rw[q] at q';cases q'
   obtain ⟨v,hv⟩:=heo
   exact ⟨v,by rw[hbe];exact hv⟩
  ·refine (ok b u q).mL (λc v hc r=>k c v ?_ r) (λc r=>by rw[aF (nown c b r)];exact r) λc xs r=>by rw[aF (ntup c xs r)];exact r
   rcases hc with rfl | hc
   ·exact hbe
   ·rintro rfl
    rcases he with z | z
    ·exact nown c b hc z
    ·rw[hc] at z;cases z;exact hb rfl
end
structure Un (fs ex:List Addr)(H H':Hp)(h h':Heap):Prop where
 keep:∀b o,h.get? b=some o->H b=none->b∉fs->b∉ex->h'.get? b=some o
 slot:∀b o,h.get? b=some o->H b=none->b∈fs->b∉ex->∃sl,h'.get? b=some { o with slots:=sl }
 free:∀b o,h.get? b=some o->H b=none->b∉ex->H' b=none
 there:∀b o,h.get? b=some o->b∉ex->∃o',h'.get? b=some o'
 tups:∀b xs,H b=some (.tup xs)->H' b=some (.tup xs)
 frzs:∀b o u,H b=some (.frz o u)->H' b=some (.frz o u)
 tbls:∀b ps,H b=some (.tbl ps)->∃more,H' b=some (.tbl (ps++more))
section
variable  {fs fs' ex ex':List Addr}{H H1 H2:Hp}{h h1 h2 h':Heap}{a x e:Addr}{o:HO}
theorem Un.any (u:Un fs ex H H1 h h1){b:Addr}{ob:Obj}(q:h.get? b=some ob)(n:H b=none)(hx:b∉ex):∃sl,h1.get? b=some { ob with slots:=sl }:=by
 by_cases hb:b∈fs
 ·exact u.slot b ob q n hb hx
 ·exact ⟨ob.slots,u.keep b ob q n hb hx⟩
theorem Un.kept (k:∀b u,h.get? b=some u->h'.get? b=some u):Un fs ex H H h h' :=
 ⟨λb ob q _ _ _=>k b ob q,λb ob q _ _ _=>⟨ob.slots,k b ob q⟩,λ_ _ _ n _=>n,λb ob q _=>⟨ob,k b ob q⟩,λ_ _ q=>q,λ_ _ _ q=>q,λ_ ps q=>⟨#[],by rw[q];simp⟩⟩
theorem Un.refl:Un fs ex H H h h:=Un.kept λ_ _ q=>q
theorem Un.laid (k:∀b u,h.get? b=some u->h'.get? b=some u)(hp:h.objs.size<=a)(hn:H a=none):Un fs ex H (upd H a o) h h' where
 keep:=λb u q _ _ _=>k b u q
 slot:=λb u q _ _ _=>⟨u.slots,k b u q⟩
 free:=λb u q n _=>by rw[aF (wV (wO (wJ q) hp))];exact n
 there:=λb u q _=>⟨u,k b u q⟩
 tups:=λb xs q=>by rw[aF (aR q hn)];exact q
 frzs:=λb u xs q=>by rw[aF (aR q hn)];exact q
 tbls:=λb ps q=>⟨#[],by rw[aF (aR q hn),q];simp⟩
theorem Un.write (mu:Mut (H x))(he:e=x\/H e=some (.own x))(k:∀b u,b≠e->h.get? b=some u->h'.get? b=some u)(heo:∃u,h'.get? e=some u):Un fs ex H (upd H x o) h h':=by
 have hx:∀b,H b=none->b≠x:=λb n z=>by subst z;rw[n] at mu;exact mu
 have hb:∀b,H b=none->b≠e:=λb n z=>by
  subst z
  rcases he with r | r
  ·exact hx b n r
  ·rw[n] at r;cases r
 have hm:∀b u,H b=some u->¬ Mut (some u)->b≠x:=λb u q nm z=>by subst z;rw[q] at mu;exact nm mu
 refine ⟨λb u q n _ _=>k b u (hb b n) q,λb u q n _ _=>⟨u.slots,k b u (hb b n) q⟩,λb u q n _=>by rw[aF (hx b n)];exact n,λb u q _ =>?_,
  λb xs q=>by rw[aF (hm b _ q λz=>z)];exact q,λb u xs q=>by rw[aF (hm b _ q λz=>z)];exact q,λb ps q=>⟨#[],by rw[aF (hm b _ q λz=>z),q];simp⟩⟩
 by_cases hbe:b=e
 ·subst hbe;exact heo
 ·exact ⟨u,k b u hbe q⟩
end
def trk (h:Heap)(H:Hp):List Addr:=(xE h.objs.size).filter λa=>(H a).isSome
def kz (h:Heap)(H:Hp):Heap:=PySem.W.hideAll h (trk h H)
theorem oZ (h:Heap)(H:Hp):(kz h H).objs.size=h.objs.size:=PySem.W.hideAll_size _ _
theorem qv {h:Heap}{H:Hp}{b:Addr}{o:Obj}(e:h.get? b=some o)(n:H b=none):(kz h H).get? b=some o :=
 PySem.W.hideAll_get _ e λhm=>by
  have q:(H b).isSome=true:=(BL.mp hm).2
  rw[n] at q;simp at q
theorem sk {h:Heap}{H:Hp}{b:Addr}{o:Obj}(e:(kz h H).get? b=some o):h.get? b=some o/\H b=none:=by
 have e':h.get? b=some o:=PySem.W.of_hideAll (trk h H) e
 refine ⟨e',?_⟩
 cases q:H b with
 | none=>rfl
 | some x =>
  have hm:b∈trk h H:=BL.mpr ⟨xD.mpr (wJ e'),by simp[q]⟩
  have z:(kz h H).get? b=none:=PySem.W.hideAll_none (trk h H) hm
  rw[z] at e;cases e
def so (g h:Heap)(L:Addr):List (Addr×Obj):=(xE h.objs.size).filterMap λa=>if a=L\/(g.get? a).isSome=true then none else (h.get? a).map λo=>(a,o)
def rest (g h:Heap)(L d:Addr):List (Addr×Obj):=(so g h L).filter λp=>decide (p.1≠d)
open PySem PySem.Spec PyProof.Rows
structure Mod (K:wc)(mg:Str->Option wm)(base:Heap):Prop where
 kin:K.In base
 glob:base.Ns xw mg
 blt:∃mb,base.Ns builtinsNs mb/\∀x:Str,x ≠ "__name__" -> mb x=xJ x
 nolimit:base.NoLimit
structure Cx where
 prog:wL
 w:xg
 K:wc
 mg:Str->Option wm
 base:Heap
 A:xF
 N:List Str
 s₀:wu
 H₀:Hp
 env:Env
 outer:List Env
 stack:List Env
 ex:List Addr
 fn:Str->Bool
 calm:Bool
 pn:List (Addr×Obj)
 xe:wm->wu->Prop
def frs (l:List Env):List Addr:=l.filterMap (·.frame)
abbrev Cx.fs (X:Cx):List Addr:=frs X.outer
def Vis (sc:Scope)(x:Str):Prop:=sc.names.lookup x=some .local\/sc.names.lookup x=some .cell\/sc.names.lookup x=some .free
def Loc (sc:Scope)(x:Str):Prop:=sc.names.lookup x=some .local\/sc.names.lookup x=some .cell
def Look (env:Env)(h:Heap)(m:Str->Option wm)(x:Str)(u:wm):Prop :=
 (env.kindOf x=some .local/\m x=some u)\/((env.kindOf x=some .cell\/env.kindOf x=some .free)/\∃c,env.cells.lookup x=some c/\h.IsCell c (some u))
structure Cx.Ok (X:Cx):Prop where
 mod:Mod X.K X.mg X.base
 kind:X.env.scope.kind = .function
 glob:X.env.globals=xw
 blt:X.env.builtins=builtinsNs
 above:X.s₀.heap.objs.size<=X.env.locals
 inj:∀x y c,X.env.cells.lookup x=some c->X.env.cells.lookup y=some c->x=y
 has:∀x,(X.env.kindOf x=some .cell\/X.env.kindOf x=some .free)->∃c,X.env.cells.lookup x=some c
 cab:∀x c,X.fn x=true->X.env.cells.lookup x=some c->X.s₀.heap.objs.size<=c
 hd:X.calm=true->X.A.handled=none
 frames:X.A.frames=some X.stack
 stk:X.stack=X.outer\/(X.stack=X.env :: X.outer/\X.env.frame=some X.env.locals)
 exf:∀b∈X.ex,b≠X.env.locals/\∀x c,X.env.cells.lookup x=some c->c≠b
 bs:∀b o,X.base.get? b=some o->X.s₀.heap.get? b=some o/\X.H₀ b=none
 bsz:X.base.objs.size<=X.s₀.heap.objs.size
 noex:∀b o,X.base.get? b=some o->b∉X.ex
 exfs:∀b∈X.ex,b∉X.fs
 funs:X.s₀.heap.FunFrames X.base X.outer
 frf:∀b∈X.fs,X.H₀ b=none
structure Inv (X:Cx)(pins:List (Addr×Obj))(σ:List (Option V))(H:Hp)(s:wu):Prop where
 ok:X.Ok
 os:s.os=X.s₀.os
 bare:AllBare s.gens
 base:Un X.fs X.ex X.H₀ H X.s₀.heap s.heap
 loc:∃m,s.heap.Ns X.env.locals m/\∀(i:Nat) (x:Str) (v:V),X.N[i]? = some x->σ[i]? = some (some v)->Vis X.env.scope x->∃u,RelV v u/\Look X.env s.heap m x u
 cell:∀x c,X.env.cells.lookup x=some c->∃v,s.heap.IsCell c v
 free:H X.env.locals=none
 freeC:∀x c,X.env.cells.lookup x=some c->H c=none
 pin:∀p∈X.pn++pins,s.heap.get? p.1=some p.2/\H p.1=none/\p.1≠X.env.locals/\p.1∉X.fs/\∀v,p.2.data ≠ .cell v
 hok:HOk X.prog X.w H s.heap
 len:σ.length=X.N.length
section
variable  {X:Cx}{pins:List (Addr×Obj)}{σ:List (Option V)}{H H':Hp}{s:wu}{h':Heap}
theorem Cx.Ok.nofr (ok:X.Ok){b:Addr}{o:Obj}(e:X.base.get? b=some o):b∉X.fs:=λhb=>by
 have:=(ok.funs.mem hb).1
 rw[e] at this;cases this
theorem Inv.bs (I:Inv X pins σ H s):∀b o,X.base.get? b=some o->s.heap.get? b=some o/\H b=none:=λb o e =>
 ⟨I.base.keep b o (I.ok.bs b o e).1 (I.ok.bs b o e).2 (I.ok.nofr e) (I.ok.noex b o e),I.base.free b o (I.ok.bs b o e).1 (I.ok.bs b o e).2 (I.ok.noex b o e)⟩
theorem Inv.bk (I:Inv X pins σ H s):∀b o,X.base.get? b=some o->s.heap.get? b=some o:=λb o e=>(I.bs b o e).1
theorem Inv.mod (I:Inv X pins σ H s):Mod X.K X.mg X.base:=I.ok.mod
theorem Inv.kIn (I:Inv X pins σ H s):X.K.In s.heap:=I.ok.mod.kin.keeps I.bk
theorem Inv.lt (I:Inv X pins σ H s):X.env.locals<s.heap.objs.size:=let ⟨_,hn,_⟩:=I.loc;hn.lt
theorem Inv.sz (I:Inv X pins σ H s):X.s₀.heap.objs.size<=s.heap.objs.size:=xx I.ok.above (Ar I.lt)
theorem Inv.uw (I:Inv X pins σ H s){a:Addr}(h:s.heap.objs.size<=a):a∉X.fs:=λhb=>by
 obtain ⟨_,o,ho,_⟩:=I.ok.funs.mem hb
 exact absurd (wO (wJ ho) (xx I.sz h)) (xK _)
theorem Inv.cne (I:Inv X pins σ H s):∀x c,X.env.cells.lookup x=some c->c≠X.env.locals:=λx c e z=>by
 obtain ⟨v,o,ho,hd⟩:=I.cell x c e
 obtain ⟨m,⟨o',es,ep,ho',hd',_⟩,_⟩:=I.loc
 rw[z,ho'] at ho;cases ho;rw[hd'] at hd;cases hd
theorem Inv.funs (I:Inv X pins σ H s):s.heap.FunFrames X.base X.outer:=by
 have all:∀(l:List Env),(∀b∈frs l,b∈X.fs)->X.s₀.heap.FunFrames X.base l->s.heap.FunFrames X.base l:=by
  intro l
  induction l with
  | nil=>intro _ _;trivial
  | cons env r ih =>
   intro hs hl
   obtain ⟨hk,⟨L,o,hf,hn,ho,hd⟩,hr⟩:=hl
   have hL:L∈X.fs:=hs L (by unfold frs;rw[zW,hf];exact wY)
   obtain ⟨sl,e⟩:=I.base.slot L o ho (I.ok.frf L hL) hL λz=>I.ok.exfs L z hL
   exact ⟨hk,⟨L,_,hf,hn,e,hd⟩,ih (λb hb=>hs b (by unfold frs;rw[zW,hf];exact xf _ hb)) hr⟩
 exact all X.outer (λ_ hb=>hb) I.ok.funs
theorem Inv.stack (I:Inv X pins σ H s):s.heap.FunFrames X.base X.stack:=by
 rcases I.ok.stk with e | ⟨e,hf⟩
 ·rw[e];exact I.funs
 ·rw[e]
  obtain ⟨m,hn,_⟩:=I.loc
  refine .cons (by rw[I.ok.kind];decide) hf hn ?_ I.funs
  exact Heap.get?_none_of_le (xx I.ok.bsz I.ok.above)
theorem Inv.kA (I:Inv X pins σ H s):∀b∈frs X.stack,b∈X.env.locals :: X.fs:=λb hb=>by
 rcases I.ok.stk with e | ⟨e,hf⟩
 ·rw[e] at hb;exact xf _ hb
 ·rw[e] at hb
  unfold frs at hb
  rw[zW,hf] at hb
  exact hb
theorem Inv.nW (I:Inv X pins σ H s):∀b∈frs X.stack,H b=none:=λb hb=>by
 rcases wZ.mp (I.kA b hb) with e | hb
 ·rw[e];exact I.free
 ·obtain ⟨_,o,ho,_⟩:=I.ok.funs.mem hb
  exact I.base.free b o ho (I.ok.frf b hb) λz=>I.ok.exfs b z hb
theorem Inv.step {g':Array GenState}{t':Nat}{d':Drawn}{ch:List Addr}(I:Inv X pins σ H s)
  (hch:∀b∈ch,(b∈X.ex\/X.s₀.heap.objs.size<=b)/\b≠X.env.locals/\(∀x c,X.env.cells.lookup x=some c->c≠b)/\∀p∈X.pn++pins,p.1≠b)
  (keep:∀b o,b≠X.env.locals->b∉X.fs->b∉ch->s.heap.get? b=some o->H b=none->h'.get? b=some o)
  (slot:∀b o,b≠X.env.locals->b∈X.fs->b∉ch->s.heap.get? b=some o->H b=none->∃sl,h'.get? b=some { o with slots:=sl }) (free:∀b o,b∉ch->s.heap.get? b=some o->H b=none->H' b=none)
  (there:∀b o,b∉ch->s.heap.get? b=some o->∃o',h'.get? b=some o')
  (tups:∀b xs,H b=some (.tup xs)->H' b=some (.tup xs)) (frzs:∀b o u,H b=some (.frz o u)->H' b=some (.frz o u)) (tbls:∀b ps,H b=some (.tbl ps)->∃more,H' b=some (.tbl (ps++more)))
  (ns:∀m,s.heap.Ns X.env.locals m->h'.Ns X.env.locals m) (hok:HOk X.prog X.w H' h') (hg:AllBare g') :
  Inv X pins σ H' { s with heap:=h',gens:=g',drawn:=d',toks:=t' }:=by
 have neL:∀b o,X.s₀.heap.get? b=some o->b≠X.env.locals:=λb o e=>wV (wO (wJ e) I.ok.above)
 have neC:∀b o,X.s₀.heap.get? b=some o->b∉X.ex->b∉ch:=λb o e hx hb=>by
  rcases (hch b hb).1 with z | z
  ·exact hx z
  ·exact absurd (wO (wJ e) z) (xK _)
 have cellK:∀x c,X.env.cells.lookup x=some c->∀v,s.heap.IsCell c v->h'.IsCell c v:=λx c e v ⟨o,ho,hd⟩=>by
  have nch:c∉ch:=λz=>(hch c z).2.2.1 x c e rfl
  by_cases hc:c∈X.fs
  ·obtain ⟨sl,q⟩:=slot c o (I.cne x c e) hc nch ho (I.freeC x c e)
   exact ⟨_,q,hd⟩
  ·exact ⟨o,keep c o (I.cne x c e) hc nch ho (I.freeC x c e),hd⟩
 refine ⟨I.ok,I.os,hg,⟨λb o e n hb hx =>?_,λb o e n hb hx =>?_,λb o e n hx =>?_,λb o e hx =>?_,λb xs e=>tups b xs (I.base.tups b xs e),λb o xs e=>frzs b o xs (I.base.frzs b o xs e),λb ps e =>?_⟩,?_,λx c e =>?_,?_,λx c e =>?_,λp hp =>?_,hok,I.len⟩
 ·exact keep b o (neL b o e) hb (neC b o e hx) (I.base.keep b o e n hb hx) (I.base.free b o e n hx)
 ·obtain ⟨sl,e1⟩:=I.base.slot b o e n hb hx
  obtain ⟨sl',e2⟩:=slot b _ (neL b o e) hb (neC b o e hx) e1 (I.base.free b o e n hx)
  exact ⟨sl',e2⟩
 ·obtain ⟨o',e1⟩:=I.base.there b o e hx
  exact free b o' (neC b o e hx) e1 (I.base.free b o e n hx)
 ·obtain ⟨o',e1⟩:=I.base.there b o e hx
  exact there b o' (neC b o e hx) e1
 ·obtain ⟨m1,e1⟩:=I.base.tbls b ps e
  obtain ⟨m2,e2⟩:=tbls b _ e1
  exact ⟨m1++m2,by rw[e2,Array.append_assoc]⟩
 ·obtain ⟨m,hn,hl⟩:=I.loc
  refine ⟨m,ns m hn,λi x v e1 e2 e3 =>?_⟩
  obtain ⟨u,r,l⟩:=hl i x v e1 e2 e3
  refine ⟨u,r,?_⟩
  rcases l with l | ⟨k,c,e,z⟩
  ·exact .inl l
  ·exact .inr ⟨k,c,e,cellK x c e _ z⟩
 ·obtain ⟨v,z⟩:=I.cell x c e
  exact ⟨v,cellK x c e v z⟩
 ·obtain ⟨m,⟨o,_,_,ho,_⟩,_⟩:=I.loc
  exact free _ o (λz=>(hch _ z).2.1 rfl) ho I.free
 ·obtain ⟨v,o,ho,hd⟩:=I.cell x c e
  exact free c o (λz=>(hch c z).2.2.1 x c e rfl) ho (I.freeC x c e)
 ·obtain ⟨e,n,ne,nf,d⟩:=I.pin p hp
  have nch:p.1∉ch:=λz=>(hch p.1 z).2.2.2 p hp rfl
  exact ⟨keep p.1 p.2 ne nf nch e n,free p.1 p.2 nch e n,ne,nf,d⟩
theorem Inv.un {t':Nat}(I:Inv X pins σ H s)(u:Un X.fs [] H H' s.heap h')(hok:HOk X.prog X.w H' h'):Inv X pins σ H' { s with heap:=h',toks:=t' }:=by
 obtain ⟨m,⟨o,es,ep,ho,r⟩,_⟩:=id I.loc
 obtain ⟨sl,hL⟩:=u.any ho I.free (by simp)
 exact I.step (g':=s.gens) (d':=s.drawn) (ch:=[]) (λ_ z=>nomatch z) (λb o _ hb _ e n=>u.keep b o e n hb (by simp)) (λb o _ hb _ e n=>u.slot b o e n hb (by simp)) (λb o _ e n=>u.free b o e n (by simp)) (λb o _ e=>u.there b o e (by simp)) u.tups u.frzs u.tbls (λm' hm=>by
  obtain ⟨o',es',ep',ho',r'⟩:=hm
  rw[ho] at ho';cases ho'
  exact ⟨_,es',ep',hL,r'⟩) hok I.bare
theorem Inv.call {g':Array GenState}{t':Nat}{d':Drawn}{ch:List Addr}(I:Inv X pins σ H s)(u:Un (frs X.stack) ch H H' s.heap h')(hok:HOk X.prog X.w H' h')(hg:AllBare g')
  (hch:∀b∈ch,(b∈X.ex\/X.s₀.heap.objs.size<=b)/\b≠X.env.locals/\(∀x c,X.env.cells.lookup x=some c->c≠b)/\∀p∈X.pn++pins,p.1≠b) :
  Inv X pins σ H' { s with heap:=h',gens:=g',drawn:=d',toks:=t' }:=by
 obtain ⟨m,⟨o,es,ep,ho,r⟩,_⟩:=id I.loc
 obtain ⟨sl,hL⟩:=u.any ho I.free λz=>(hch _ z).2.1 rfl
 exact I.step (ch:=ch) hch (λb o hL hb hc e n=>u.keep b o e n (λz=>(wZ.mp (I.kA b z)).elim hL hb) hc) (λb o _ _ hc e n=>u.any e n hc) (λb o hc e n=>u.free b o e n hc) (λb o hc e=>u.there b o e hc) u.tups u.frzs u.tbls (λm' hm=>by
  obtain ⟨o',es',ep',ho',r'⟩:=hm
  rw[ho] at ho';cases ho'
  exact ⟨_,es',ep',hL,r'⟩) hok hg
theorem Inv.turned {t':Nat}{it:Addr}(I:Inv X pins σ H s)(k:∀b o,b≠it->s.heap.get? b=some o->h'.get? b=some o)(hn:H it=none)(hL:it≠X.env.locals)
  (h1:it∈X.ex\/X.s₀.heap.objs.size<=it) (h2:∀x c,X.env.cells.lookup x=some c->c≠it) (h3:∀p∈X.pn++pins,p.1≠it):Inv X pins σ H { s with heap:=h',toks:=t' }:=by
 have nit:∀b u,H b=some u->b≠it:=λb u e z=>by rw[z,hn] at e;cases e
 refine I.step (g':=s.gens) (d':=s.drawn) (ch:=[it]) (λb hb =>?_) (λb o _ _ hc e _=>k b o (λz=>hc (by simp[z])) e) (λb o _ _ hc e _=>⟨o.slots,k b o (λz=>hc (by simp[z])) e⟩) (λ_ _ _ _ n=>n)
  (λb o hc e=>⟨o,k b o (λz=>hc (by simp[z])) e⟩) (λ_ _ e=>e) (λ_ _ _ e=>e) (λb ps e=>⟨#[],by rw[e];simp⟩) (λm hm =>?_) (λb u e =>?_) I.bare
 ·have e:b=it:=by simpa using hb
  subst e
  exact ⟨h1,hL,h2,h3⟩
 ·obtain ⟨o,es,ep,ho,r⟩:=hm
  exact ⟨o,es,ep,k _ o (zF hL) ho,r⟩
 ·refine (I.hok b u e).mL (λc v hc q=>k c v ?_ q) (λ_ q=>q) λ_ _ q=>q
  rcases hc with z | z
  ·rw[z];exact nit b u e
  ·exact nit c _ z
theorem Inv.tok (I:Inv X pins σ H s)(t:Nat):Inv X pins σ H { s with toks:=t }:=I.un (h':=s.heap) (t':=t) Un.refl I.hok
theorem Inv.kept {t':Nat}(I:Inv X pins σ H s)(k:∀b u,s.heap.get? b=some u->h'.get? b=some u):Inv X pins σ H { s with heap:=h',toks:=t' }:=I.un (Un.kept k) (I.hok.kept k)
theorem Inv.laid {a:Addr}{o:HO}{t':Nat}(I:Inv X pins σ H s)(k:∀b u,s.heap.get? b=some u->h'.get? b=some u)(hp:s.heap.objs.size<=a)(new:bG X.prog X.w (upd H a o) h' a o) :
  Inv X pins σ (upd H a o) { s with heap:=h',toks:=t' }:=I.un (Un.laid k hp (I.hok.fresh hp)) (I.hok.laid k hp new)
theorem Inv.write {x e:Addr}{o:HO}{t':Nat}(I:Inv X pins σ H s)(mu:Mut (H x))(he:e=x\/H e=some (.own x))(k:∀b u,b≠e->s.heap.get? b=some u->h'.get? b=some u)(heo:∃u,h'.get? e=some u)
  (new:bG X.prog X.w (upd H x o) h' x o):Inv X pins σ (upd H x o) { s with heap:=h',toks:=t' }:=I.un (Un.write mu he k heo) (I.hok.write mu he k heo new)
theorem Inv.gj {pins':List (Addr×Obj)}(I:Inv X pins σ H s)(h:∀p∈pins',s.heap.get? p.1=some p.2/\H p.1=none/\p.1≠X.env.locals/\p.1∉X.fs/\∀v,p.2.data ≠ .cell v):Inv X pins' σ H s :=
 ⟨I.ok,I.os,I.bare,I.base,I.loc,I.cell,I.free,I.freeC,λp hp=>(wC.mp hp).elim (λz=>I.pin p (yb _ z)) (h p),I.hok,I.len⟩
theorem lD {N:List Str}(hN:N.Nodup){i j:Nat}{x:Str}(a:N[i]? = some x)(b:N[j]? = some x):i=j:=by
 obtain ⟨h1,e1⟩:=wF.mp a
 obtain ⟨h2,e2⟩:=wF.mp b
 exact (List.getElem_inj hN).mp (e1.trans e2.symm)
theorem pf {M:Model}{A:xF}{E:wm->wu->Prop}{i:Nat}{x:Str}{v:V}{u:wm}{Q:Unit->wu->Prop}(I:Inv X pins σ H s)(hN:X.N.Nodup)(hi:X.N[i]? = some x)(hx:Loc X.env.scope x)(r:RelV v u)
  (h:∀s',Inv X pins (σ.set i (some v)) H s'->(∃a,Heap.SameBut a s.heap s'.heap/\(a=X.env.locals\/X.env.cells.lookup x=some a))->Q () s') (hf:X.fn x=true\/X.env.scope.names.lookup x=some .local:=by first | exact .inl rfl | exact .inr rfl | assumption):wX M A (storeName X.env x u) Q E s:=by
 obtain ⟨m,hn,hl⟩:=id I.loc
 have hcls:(X.env.scope.kind == .class || (X.env.scope.kind == .module && X.env.locals != X.env.globals))=false:=by rw[I.ok.kind];rfl
 have hiσ:i<σ.length:=by rw[I.len];exact (wF.mp hi).1
 have cne:=I.cne
 have tracked:∀{a:Addr} {h':Heap},(∃o,s.heap.get? a=some o/\H a=none)->Heap.SameBut a s.heap h'->HOk X.prog X.w H h':=λ{a h'} ha hs b ob e=>by
  obtain ⟨_,_,hfree⟩:=ha
  refine (I.hok b ob e).mL (λc w' hc q=>(hs.2 c ?_).trans q) (λ_ q=>q) λ_ _ q=>q
  rintro rfl
  rcases hc with rfl | hc
  ·rw[hfree] at e;cases e
  ·rw[hfree] at hc;cases hc
 rcases hx with hk | hk
 ·refine wpAny_storeName_local hk hn (λh' hn' hs =>?_) hcls
  obtain ⟨oL,_,_,hoL,_⟩:=id hn
  refine h _ ⟨I.ok,I.os,I.bare,⟨λb o e n hb hx =>?_,λb o e n hb hx =>?_,I.base.free,λb o e hx =>?_,I.base.tups,I.base.frzs,I.base.tbls⟩,⟨_,hn',λj y v' e1 e2 e3 =>?_⟩,λy c e =>?_,I.free,I.freeC,λp hp =>?_,tracked ⟨oL,hoL,I.free⟩ hs,by simpa using I.len⟩ ⟨_,hs,.inl rfl⟩
  ·exact (hs.2 b (wV (wO (wJ e) I.ok.above))).trans (I.base.keep b o e n hb hx)
  ·obtain ⟨sl,e1⟩:=I.base.slot b o e n hb hx
   exact ⟨sl,(hs.2 b (wV (wO (wJ e) I.ok.above))).trans e1⟩
  ·obtain ⟨o',e1⟩:=I.base.there b o e hx
   exact ⟨o',(hs.2 b (wV (wO (wJ e) I.ok.above))).trans e1⟩
  ·by_cases hj:j=i
   ·subst hj
    rw[hi] at e1;cases e1
    rw[Ak hiσ] at e2
    cases e2
    exact ⟨u,r,.inl ⟨hk,by simp⟩⟩
   ·rw[Ca (zF hj)] at e2
    obtain ⟨u',r',q⟩:=hl j y v' e1 e2 e3
    refine ⟨u',r',?_⟩
    rcases q with ⟨k,e⟩ | ⟨k,c,e,z⟩
    ·refine .inl ⟨k,?_⟩
     have:y≠x:=λe=>hj (lD hN e1 (e ▸ hi))
     simp[this,e]
    ·exact .inr ⟨k,c,e,z.sameBut hs (cne y c e)⟩
  ·obtain ⟨w',z⟩:=I.cell y c e
   exact ⟨w',z.sameBut hs (cne y c e)⟩
  ·obtain ⟨e,n,ne,nf,d⟩:=I.pin p hp
   exact ⟨(hs.2 p.1 ne).trans e,n,ne,nf,d⟩
 ·have hfn:X.fn x=true:=by
   rcases hf with z | z
   ·exact z
   ·rw[z] at hk;cases hk
  obtain ⟨c,hc⟩:=I.ok.has x (.inl hk)
  obtain ⟨w',z⟩:=I.cell x c hc
  refine wpAny_storeName_cell I.ok.kind hk hc z (λh' hc' hs =>?_)
  obtain ⟨oc,hoc,hocd⟩:=id z
  refine h { s with heap:=h' } ⟨I.ok,I.os,I.bare,⟨λb o e n hb hx =>?_,λb o e n hb hx =>?_,I.base.free,λb o e hx =>?_,I.base.tups,I.base.frzs,I.base.tbls⟩,⟨m,hn.sameBut hs (zF (cne x c hc)),λj y v' e1 e2 e3 =>?_⟩,λy c' e =>?_,I.free,I.freeC,λp hp =>?_,tracked ⟨oc,hoc,I.freeC x c hc⟩ hs,by simpa using I.len⟩ ⟨c,hs,.inr hc⟩
  ·exact (hs.2 b (wV (wO (wJ e) (I.ok.cab x c hfn hc)))).trans (I.base.keep b o e n hb hx)
  ·obtain ⟨sl,e1⟩:=I.base.slot b o e n hb hx
   exact ⟨sl,(hs.2 b (wV (wO (wJ e) (I.ok.cab x c hfn hc)))).trans e1⟩
  ·obtain ⟨o',e1⟩:=I.base.there b o e hx
   exact ⟨o',(hs.2 b (wV (wO (wJ e) (I.ok.cab x c hfn hc)))).trans e1⟩
  ·by_cases hj:j=i
   ·subst hj
    rw[hi] at e1;cases e1
    rw[Ak hiσ] at e2
    cases e2
    exact ⟨u,r,.inr ⟨.inl hk,c,hc,hc'⟩⟩
   ·rw[Ca (zF hj)] at e2
    obtain ⟨u',r',q⟩:=hl j y v' e1 e2 e3
    refine ⟨u',r',?_⟩
    rcases q with q | ⟨k,c',e,z'⟩
    ·exact .inl q
    ·refine .inr ⟨k,c',e,z'.sameBut hs ?_⟩
     rintro rfl
     exact hj (lD hN e1 (I.ok.inj _ _ _ e hc ▸ hi))
  ·by_cases hcc:c'=c
   ·subst hcc;exact ⟨_,hc'⟩
   ·obtain ⟨w2,z2⟩:=I.cell y c' e
    exact ⟨w2,z2.sameBut hs hcc⟩
  ·obtain ⟨e,n,ne,nf,d⟩:=I.pin p hp
   refine ⟨(hs.2 p.1 ?_).trans e,n,ne,nf,d⟩
   intro q
   rw[q,hoc] at e
   have q':oc=p.2:=xt e
   exact d w' (by rw[<- q'];exact hocd)
theorem lE {M:Model}{A:xF}{E:wm->wu->Prop}{i:Nat}{x:Str}{v:V}{u:wm}{Q:Unit->wu->Prop}(I:Inv X pins σ H s)(hN:X.N.Nodup)(hi:X.N[i]? = some x)(hx:Loc X.env.scope x)(r:RelV v u)
  (h:∀s',Inv X pins (σ.set i (some v)) H s'->Q () s') (hf:X.fn x=true\/X.env.scope.names.lookup x=some .local:=by first | exact .inl rfl | exact .inr rfl | assumption):wX M A (storeName X.env x u) Q E s :=
 pf I hN hi hx r (λs' I' _=>h s' I') hf
theorem Inv.vp {s':wu}{ch:List Addr}(I:Inv X pins σ H s)(ho:s'.os=s.os)(u:Un (frs X.stack) ch H H' s.heap s'.heap)(hok:HOk X.prog X.w H' s'.heap)(hg:AllBare s'.gens)
  (hch:∀b∈ch,(b∈X.ex\/X.s₀.heap.objs.size<=b)/\b≠X.env.locals/\(∀x c,X.env.cells.lookup x=some c->c≠b)/\∀p∈X.pn++pins,p.1≠b):Inv X pins σ H' s':=by
 obtain ⟨h',g',d',t',o'⟩:=s'
 have e:o'=s.os:=ho
 subst e
 exact I.call (g':=g') (t':=t') (d':=d') u hok hg hch
end
abbrev XK:=wm->Option Addr->Hp->Prop
abbrev St:=List (Option V)
abbrev VK:=V->Hp->Prop
abbrev TE:=St->Hp->VK->Prop
abbrev TT:=St->Hp->(Bool->Hp->Prop)->Prop
abbrev TA:=St->Hp->(List V->Hp->Prop)->Prop
structure Ends where
 nx:St->Hp->Prop
 rt:VK
 bk:St->Hp->Prop:=λ_ _=>False
 ct:St->Hp->Prop:=λ_ _=>False
abbrev TS:=Ends->St->Hp->Prop
def EP (X:Cx)(pins:List (Addr×Obj))(σ:St)(Q:VK)(u:wm)(s':wu):Prop:=∃v H',Inv X pins σ H' s'/\RelV v u/\Q v H'
def TP (X:Cx)(pins:List (Addr×Obj))(σ:St)(Q:Bool->Hp->Prop)(b:Bool)(s':wu):Prop:=∃H',Inv X pins σ H' s'/\Q b H'
def AP (X:Cx)(pins:List (Addr×Obj))(σ:St)(Q:List V->Hp->Prop)(us:List wm)(s':wu):Prop:=∃vs H',Inv X pins σ H' s'/\Vals vs us/\Q vs H'
def SP (X:Cx)(pins:List (Addr×Obj))(D:Ends)(f:Flow)(s':wu):Prop :=
 match f with
 | .next=>∃σ' H',Inv X pins σ' H' s'/\D.nx σ' H'
 | .brk=>∃σ' H',Inv X pins σ' H' s'/\D.bk σ' H'
 | .cont=>∃σ' H',Inv X pins σ' H' s'/\D.ct σ' H'
 | .ret u=>∃v σ' H',Inv X pins σ' H' s'/\RelV v u/\D.rt v H'
def PE (X:Cx)(e:Expr)(t:TE):Prop :=
 ∀(pins:List (Addr×Obj)) (s:wu) (σ:St) (H:Hp) (Q:VK),Inv X pins σ H s->t σ H Q->wX (xk X.prog X.w) X.A (eval e X.env) (EP X pins σ Q) X.xe s
def PT (X:Cx)(e:Expr)(t:TT):Prop :=
 ∀(pins:List (Addr×Obj)) (s:wu) (σ:St) (H:Hp) (Q:Bool->Hp->Prop),Inv X pins σ H s->t σ H Q->wX (xk X.prog X.w) X.A (isTrue e X.env (eval e X.env)) (TP X pins σ Q) X.xe s
def PW (X:Cx)(e:Expr)(t:TT):Prop :=
 ∀(whole:Sem wm) (pins:List (Addr×Obj)) (s:wu) (σ:St) (H:Hp) (Q:Bool->Hp->Prop),Inv X pins σ H s->t σ H Q->wX (xk X.prog X.w) X.A (isTrue e X.env whole) (TP X pins σ Q) X.xe s
theorem PW.pt {X:Cx}{e:Expr}{t:TT}(h:PW X e t):PT X e t:=h _
def PA (X:Cx)(es:List Expr)(t:TA):Prop :=
 ∀(pos:Pos) (pins:List (Addr×Obj)) (s:wu) (σ:St) (H:Hp) (Q:List V->Hp->Prop),Inv X pins σ H s->t σ H Q->wX (xk X.prog X.w) X.A (spliced (Bp pos (xO es X.env))) (AP X pins σ Q) X.xe s
def PS (X:Cx)(st:Stmt)(t:TS):Prop :=
 ∀(pins:List (Addr×Obj)) (s:wu) (σ:St) (H:Hp) (D:Ends),Inv X pins σ H s->t D σ H->wX (xk X.prog X.w) X.A (exec st X.env) (SP X pins D) X.xe s
def PSs (X:Cx)(st:List Stmt)(t:TS):Prop :=
 ∀(pins:List (Addr×Obj)) (s:wu) (σ:St) (H:Hp) (D:Ends),Inv X pins σ H s->t D σ H->wX (xk X.prog X.w) X.A (execs st X.env) (SP X pins D) X.xe s
theorem thn {α:Type}{t:Sem α}{Q Q':α -> wu->Prop}{M:Model}{A:xF}{E:wm->wu->Prop}{s:wu}(h:wX M A t Q E s)(hQ:∀a s,Q a s->Q' a s):wX M A t Q' E s:=zi h hQ λ_ _ x=>x
open PySem PySem.Spec PyProof.Rows
section
variable  {X:Cx}
theorem bin {a b:Expr}{ta tb:TE}(ha:PE X a ta)(hb:PE X b tb){pins:List (Addr×Obj)}{s:wu}{σ:St}{H:Hp}{R:V->V->Hp->Prop}(I:Inv X pins σ H s)(h:ta σ H λx H1=>tb σ H1 λy H2=>R x y H2)
  {α:Type} {Q:α -> wu->Prop} {f:wm->wm->Sem α}
  (hf:∀v u s2 x y H2,Inv X pins σ H2 s2->RelV x v->RelV y u->R x y H2->wX (xk X.prog X.w) X.A (f v u) Q X.xe s2) :
  wX (xk X.prog X.w) X.A (eval a X.env) (λv s₁=>wX (xk X.prog X.w) X.A (eval b X.env) (λu s₂=>wX (xk X.prog X.w) X.A (f v u) Q X.xe s₂) X.xe s₁) X.xe s:=by
 refine thn (ha pins s σ H _ I h) λv s1 ⟨x,H1,I1,r1,q1⟩ =>?_
 refine thn (hb pins s1 σ H1 _ I1 q1) λu s2 ⟨y,H2,I2,r2,q2⟩ =>?_
 exact hf v u s2 x y H2 I2 r1 r2 q2
def vq (i:Nat):TE:=λσ H Q=>∃v,σ[i]? = some (some v)/\Q v H
def tC (v:V):TE:=λ_ H Q=>Q v H
theorem ux {i:Nat}{x:Str}{pos:Pos}(hN:X.N[i]? = some x)(hv:Vis X.env.scope x)(hd:(x == ("__debug__" : Str))=false:=by decide)(hcd:(x == ("__classdict__" : Str))=false:=by decide):PE X (.Name x pos) (vq i):=by
 intro pins s σ H Q I h
 obtain ⟨v,e,h⟩:=h
 obtain ⟨m,hn,hl⟩:=I.loc
 obtain ⟨u,r,l⟩:=hl i x v hN e hv
 have fin:EP X pins σ Q u s:=⟨v,H,I,r,h⟩
 rcases l with ⟨hk,hm⟩ | ⟨hk,c,hc,hcell⟩
 ·exact DA (wpAny_loadName_local I.ok.kind hk hn hm fin) hd
 ·rcases hk with hk | hk
  ·exact DA (wpAny_loadName_cell I.ok.kind hk hc hcell fin) hd
  ·exact DA (wpAny_loadName_free I.ok.kind hk hc hcell fin hcd) hd
theorem ag {i j pos}:PE X (.Constant (.int i) j pos) (tC (.int i)):=λ_ _ _ H _ I h=>wpAny_Constant_int ⟨.int i,H,I.tok _,⟨_,rfl⟩,h⟩
theorem jQ {b j pos}:PE X (.Constant (.bool b) j pos) (tC (.bl b)):=λ_ _ _ H _ I h=>Constant_bool ⟨.bl b,H,I,rfl,h⟩
theorem eQ {j pos}:PE X (.Constant .none j pos) (tC .non):=λ_ _ _ H _ I h=>Constant_none ⟨.non,H,I,rfl,h⟩
theorem aV {x j pos}:PE X (.Constant (.str x) j pos) (tC (.str x)):=λ_ _ _ H _ I h=>Calls.Constant_str ⟨.str x,H,I.tok _,⟨_,rfl⟩,h⟩
def Gl (X:Cx)(x:Str):Prop:=X.env.kindOf x=some .globalImplicit
theorem nX {E:wm->wu->Prop}{pins:List (Addr×Obj)}{s:wu}{σ:St}{H:Hp}{x:Str}{u:wm}{pos:Pos}{Q:wm->wu->Prop}(I:Inv X pins σ H s)(hg:Gl X x)(hm:X.mg x=some u)(h:Q u s)
  (hd:(x == ("__debug__" : Str))=false:=by decide):wX (xk X.prog X.w) X.A (eval (.Name x pos) X.env) Q E s :=
 AN I.ok.kind hg (Calls.loadGlobal_global (by rw[I.ok.glob];exact I.mod.glob.keeps I.bk) hm h) hd
theorem fO {E:wm->wu->Prop}{pins:List (Addr×Obj)}{s:wu}{σ:St}{H:Hp}{x:Str}{u:wm}{pos:Pos}{Q:wm->wu->Prop}(I:Inv X pins σ H s)(hg:Gl X x)(hm:X.mg x=none)(hv:xJ x=some u)(h:Q u s)
  (hn:x ≠ "__name__" := by decide) (hd:(x == ("__debug__" : Str))=false:=by decide):wX (xk X.prog X.w) X.A (eval (.Name x pos) X.env) Q E s:=by
 obtain ⟨mb,h1,h2⟩:=I.mod.blt
 exact AN I.ok.kind hg (Calls.loadGlobal_builtin (by rw[I.ok.glob];exact I.mod.glob.keeps I.bk) hm (by rw[I.ok.blt];exact h1.keeps I.bk) ((h2 x hn).trans hv) h) hd
theorem sq {x:Str}{v:V}{u:wm}{pos:Pos}(hg:Gl X x)(hm:X.mg x=some u)(r:RelV v u)(hd:(x == ("__debug__" : Str))=false:=by decide):PE X (.Name x pos) (tC v) :=
 λ_ _ _ H _ I h=>nX I hg hm ⟨v,H,I,r,h⟩ hd
theorem kB {x:Str}{v:V}{u:wm}{pos:Pos}(hg:Gl X x)(hm:X.mg x=none)(hv:xJ x=some u)(r:RelV v u)(hn:x ≠ "__name__" := by decide)(hd:(x == ("__debug__" : Str))=false:=by decide):PE X (.Name x pos) (tC v) :=
 λ_ _ _ H _ I h=>fO I hg hm hv ⟨v,H,I,r,h⟩ hn hd
variable  {a b:Expr}{ta tb:TE}{pos:Pos}
def PC (X:Cx)(op:CmpOp)(a b:Expr)(t:TE):Prop :=
 ∀(pins:List (Addr×Obj)) (s:wu) (σ:St) (H:Hp) (Q:VK),Inv X pins σ H s->t σ H Q →
  wX (xk X.prog X.w) X.A (eval a X.env) (λv s₁=>wX (xk X.prog X.w) X.A (eval b X.env) (λu s₂=>wX (xk X.prog X.w) X.A (xY op v u) (EP X pins σ Q) X.xe s₂) X.xe s₁) X.xe s
theorem qw (b:Expr){op:CmpOp}(h:op ≠ .In)(h2:op ≠ .NotIn):behindInMarks op b=false:=by
 have e1:(op == CmpOp.In)=false:=by cases op <;> first | rfl | exact absurd rfl h
 have e2:(op == CmpOp.NotIn)=false:=by cases op <;> first | rfl | exact absurd rfl h2
 cases b <;> simp[behindInMarks,e1,e2]
def tB (t:TE):TT:=λσ H Q=>t σ H λx H1=>∃c,x = .bl c/\Q c H1
theorem pt_cmp {op:CmpOp}{t:TE}(h:PC X op a b t)(h1:behindInMarks op b=false:=by first | exact qw _ (by decide) (by decide) | rfl):PT X (.Compare a [op] [b] pos) (tB t):=by
 intro pins s σ H Q I hw
 refine B3 (thn (h pins s σ H _ I hw) λv s1 h1=>thn h1 λu s2 h2=>thn h2 λc s3 ⟨x,H1,I1,r1,q1⟩ =>?_) h1
 obtain ⟨d,rfl,q⟩:=q1
 cases r1
 exact yh ⟨H1,I1,q⟩
theorem cf {e:Expr}{t:TE}(h:PE X e t)(he:∀whole,isTrue e X.env whole=(do let v ← whole;standAt e.pos;C3 [v] (truthy v)):=by intro _;rfl):PT X e (tB t):=by
  intro pins s σ H Q I hw
  refine isTrue_plain (thn (h pins s σ H _ I hw) λv s1 ⟨x,H1,I1,r1,q1⟩ =>?_) (he _)
  obtain ⟨d,rfl,q⟩:=q1
  cases r1
  exact yh ⟨H1,I1,q⟩
variable  {tA tB':TT}{rest:List Expr}
def tAnd (t u:TT):TT:=λσ H Q=>t σ H λc H1=>if c=true then u σ H1 Q else Q false H1
def tOr (t u:TT):TT:=λσ H Q=>t σ H λc H1=>if c=true then Q true H1 else u σ H1 Q
def tNot (t:TT):TT:=λσ H Q=>t σ H λc H1=>Q (!c) H1
theorem bW (ha:PT X a tA):PW X (.BoolOp .And [a] pos) tA:=by
 intro wh pins s σ H Q I h
 refine isTrue_and (thn (ha pins s σ H Q I h) λc s1 e =>?_)
 cases c with
 | true=>exact isTrue_and_nil e
 | false=>exact e
theorem cu (ha:PT X a tA):PW X (.BoolOp .Or [a] pos) tA:=by
 intro wh pins s σ H Q I h
 refine isTrue_or (thn (ha pins s σ H Q I h) λc s1 e =>?_)
 cases c with
 | false=>exact isTrue_or_nil e
 | true=>exact e
theorem cz (ha:PT X a tA)(hb:PW X (.BoolOp .And (b :: rest) pos) tB'):PW X (.BoolOp .And (a :: b :: rest) pos) (tAnd tA tB'):=by
 intro wh pins s σ H Q I h
 refine isTrue_and (thn (ha pins s σ H _ I h) λc s1 ⟨H1,I1,q1⟩ =>?_)
 cases c with
 | true=>exact hb wh pins s1 σ H1 Q I1 q1
 | false=>exact ⟨H1,I1,q1⟩
theorem cg (ha:PT X a tA)(hb:PW X (.BoolOp .Or (b :: rest) pos) tB'):PW X (.BoolOp .Or (a :: b :: rest) pos) (tOr tA tB'):=by
 intro wh pins s σ H Q I h
 refine isTrue_or (thn (ha pins s σ H _ I h) λc s1 ⟨H1,I1,q1⟩ =>?_)
 cases c with
 | true=>exact ⟨H1,I1,q1⟩
 | false=>exact hb wh pins s1 σ H1 Q I1 q1
theorem fP (ha:PT X a tA):PT X (.UnaryOp .Not a pos) (tNot tA):=by
 intro pins s σ H Q I h
 exact isTrue_not (ha pins s σ H (λc H1=>Q (!c) H1) I h)
def vt (ta tb:TE):TE:=λσ H Q=>ta σ H λx H1=>∃c,x = .bl c/\if c=true then tb σ H1 Q else Q (.bl false) H1
def vv (ta:TE):TE:=λσ H Q=>ta σ H λx H1=>∃c,x = .bl c/\Q (.bl (!c)) H1
theorem qx {op}{t:TE}(h:PE X a t):PE X (.BoolOp op [a] pos) t:=λpins s σ H Q I hw=>BoolOp_one (h pins s σ H Q I hw)
theorem mM (ha:PE X a ta)(hb:PE X (.BoolOp .And (b :: rest) pos) tb):PE X (.BoolOp .And (a :: b :: rest) pos) (vt ta tb):=by
 intro pins s σ H Q I h
 refine BoolOp_and (thn (ha pins s σ H _ I h) λv s1 ⟨x,H1,I1,r1,q1⟩ =>?_)
 obtain ⟨c,rfl,q1⟩:=q1
 cases r1
 refine yh ?_
 cases c with
 | true=>exact hb pins s1 σ H1 Q I1 q1
 | false=>exact ⟨.bl false,H1,I1,rfl,q1⟩
theorem uy (ha:PE X a ta):PE X (.UnaryOp .Not a pos) (vv ta):=by
 intro pins s σ H Q I h
 refine UnaryOp_ (thn (ha pins s σ H _ I h) λv s1 ⟨x,H1,I1,r1,q1⟩ =>?_)
 obtain ⟨c,rfl,q1⟩:=q1
 cases r1
 exact not_of (yh ⟨.bl (!c),H1,I1,rfl,q1⟩)
end
open PySem PySem.Spec PyProof.Rows
def SqL (K:wc)(H:Hp)(a:Addr)(xs:List V):Prop :=
 Rd H a (.lst xs) ∨
  ∃(o:Obj) (its:Array wm) (n:Nat),K.lookup a=some o/\o.cls = .type "list" /\ o.dict=none/\o.data = .seq its n/\its.size<=wo/\Vals xs its.toList
def SqT (K:wc)(H:Hp)(a:Addr)(xs:List V):Prop :=
 Rd H a (.tup xs) ∨
  ∃(o:Obj) (its:Array wm) (n:Nat),K.lookup a=some o/\o.cls = .type "tuple" /\ o.data = .seq its n/\its.size<=wo/\Vals xs its.toList
def absV:wm->Option V
 | .none=>some .non
 | .bool b=>some (.bl b)
 | .int i _=>some (.int i)
 | .str x _=>some (.str x)
 | .bytes b _=>some (.byt b)
 | .float b _=>some (.flt b)
 | .ref a=>some (.ref a)
 | .type n=>some (.ty n)
 | _=>none
theorem RelV.abs {x:V}{u:wm}(r:RelV x u):absV u=some x:=by
 cases x with
 | non=>cases r;rfl
 | bl _=>cases r;rfl
 | int _=>obtain ⟨t,rfl⟩:=r;rfl
 | str _=>obtain ⟨t,rfl⟩:=r;rfl
 | byt _=>obtain ⟨t,rfl⟩:=r;rfl
 | flt _=>obtain ⟨t,rfl⟩:=r;rfl
 | ref _=>cases r;rfl
 | ty _=>cases r;rfl
theorem RelV.inj {x y:V}{u:wm}(r:RelV x u)(q:RelV y u):x=y:=xt (r.abs.symm.trans q.abs)
theorem Vals.inj:∀{xs ys:List V} {us:List wm},Vals xs us->Vals ys us->xs=ys
 | _,_,_,.nil,.nil=>rfl
 | _,_,_,.cons r t,.cons r' t'=>by rw[r.inj r',Vals.inj t t']
section
variable  {X:Cx}{pins:List (Addr×Obj)}{σ:St}{H:Hp}{s:wu}{a:Addr}{xs ys:List V}
theorem SqL.of {K:wc}(h:H a=some (.lst xs)):SqL K H a xs :=.inl (.inl h)
theorem SqT.of {K:wc}(h:H a=some (.tup xs)):SqT K H a xs :=.inl (.inl h)
theorem Inv.list (I:Inv X pins σ H s)(h:SqL X.K H a xs):∃its:List wm,Vals xs its/\PlainL s.heap a its.toArray/\xs.length<=wo:=by
 rcases h with h | ⟨o,its,n,hk,hc,hd,hs,hz,r⟩
 ·obtain ⟨z,its,n,r,e⟩:=h.ok I.hok
  exact ⟨its,r,⟨_,n,e,rfl,rfl,rfl⟩,z⟩
 ·refine ⟨its.toList,r,⟨o,n,I.kIn a o hk,hc,hd,by simpa using hs⟩,?_⟩
  have e:=r.length
  simp only[wy] at e
  lia
theorem Inv.tuple (I:Inv X pins σ H s)(h:SqT X.K H a xs):∃its:List wm,Vals xs its/\IsTup s.heap a its.toArray/\xs.length<=wo:=by
 rcases h with h | ⟨o,its,n,hk,hc,hs,hz,r⟩
 ·obtain ⟨z,its,r,p⟩:=h.ok I.hok
  exact ⟨its,r,p.tup,z⟩
 ·refine ⟨its.toList,r,⟨o,I.kIn a o hk,hc,n,by simpa using hs⟩,?_⟩
  have e:=r.length
  simp only[wy] at e
  lia
theorem Inv.iP (I:Inv X pins σ H s)(h:SqL X.K H a xs)(h':SqL X.K H a ys):xs=ys:=by
 obtain ⟨its,r,⟨o,n,e,_,_,d⟩,_⟩:=I.list h
 obtain ⟨its',r',⟨o',n',e',_,_,d'⟩,_⟩:=I.list h'
 rw[e] at e';cases e'
 rw[d] at d'
 injection d' with d1 _
 have:its=its':=by simpa using congrArg Array.toList d1
 subst this
 exact r.inj r'
theorem Inv.gJ (I:Inv X pins σ H s)(h:SqT X.K H a xs)(h':SqT X.K H a ys):xs=ys:=by
 obtain ⟨its,r,⟨o,e,_,n,d⟩,_⟩:=I.tuple h
 obtain ⟨its',r',⟨o',e',_,n',d'⟩,_⟩:=I.tuple h'
 rw[e] at e';cases e'
 rw[d] at d'
 injection d' with d1 _
 have:its=its':=by simpa using congrArg Array.toList d1
 subst this
 exact r.inj r'
end
abbrev Cx.jD (X:Cx)(E:wm->wu->Prop):Cx:={ X with xe:=E }
abbrev Cx.nox (X:Cx):Cx:=X.jD λ_ _=>False
theorem Cx.Ok.jD {X:Cx}(ok:X.Ok)(E:wm->wu->Prop):(X.jD E).Ok :=
 ⟨ok.mod,ok.kind,ok.glob,ok.blt,ok.above,ok.inj,ok.has,ok.cab,ok.hd,ok.frames,ok.stk,ok.exf,ok.bs,ok.bsz,ok.noex,ok.exfs,ok.funs,ok.frf⟩
theorem Cx.Ok.eR {X:Cx}{E:wm->wu->Prop}(ok:(X.jD E).Ok):X.Ok :=
 ⟨ok.mod,ok.kind,ok.glob,ok.blt,ok.above,ok.inj,ok.has,ok.cab,ok.hd,ok.frames,ok.stk,ok.exf,ok.bs,ok.bsz,ok.noex,ok.exfs,ok.funs,ok.frf⟩
section
variable  {X:Cx}{pins:List (Addr×Obj)}{σ:St}{H:Hp}{s:wu}{E:wm->wu->Prop}
theorem Inv.jD (I:Inv X pins σ H s)(E:wm->wu->Prop):Inv (X.jD E) pins σ H s:=⟨I.ok.jD E,I.os,I.bare,I.base,I.loc,I.cell,I.free,I.freeC,I.pin,I.hok,I.len⟩
theorem Inv.eR (I:Inv (X.jD E) pins σ H s):Inv X pins σ H s:=⟨I.ok.eR,I.os,I.bare,I.base,I.loc,I.cell,I.free,I.freeC,I.pin,I.hok,I.len⟩
theorem SP.eR {D:Ends}{f:Flow}{s':wu}(h:SP (X.jD E) pins D f s'):SP X pins D f s':=by
 cases f with
 | next=>obtain ⟨σ',H',I,q⟩:=h;exact ⟨σ',H',I.eR,q⟩
 | brk=>obtain ⟨σ',H',I,q⟩:=h;exact ⟨σ',H',I.eR,q⟩
 | cont=>obtain ⟨σ',H',I,q⟩:=h;exact ⟨σ',H',I.eR,q⟩
 | ret u=>obtain ⟨v,σ',H',I,r,q⟩:=h;exact ⟨v,σ',H',I.eR,r,q⟩
theorem PSs.nox {st:List Stmt}{t:TS}(h:PSs X.nox st t):PSs X st t:=λpins s σ H D I hw =>
 zi (h pins s σ H D (I.jD _) hw) (λ_ _ q=>q.eR) λ_ _ z=>False.elim z
end
section
variable  {X:Cx}{st:Stmt}{rest:List Stmt}{t u:TS}{e:Expr}{te:TE}{pos:Pos}
def vw:TS:=λD σ H=>D.nx σ H
def tSeq (t u:TS):TS:=λD σ H=>t { D with nx:=u D } σ H
theorem az:PSs X [] vw:=λ_ _ σ H _ I h=>AM ⟨σ,H,I,h⟩
theorem ah (h1:PS X st t)(h2:PSs X rest u):PSs X (st :: rest) (tSeq t u):=by
 intro pins s σ H D I h
 refine wpAny_execs_cons (thn (h1 pins s σ H { D with nx:=u D } I h) λf s1 q =>?_)
 cases f with
 | next =>
  obtain ⟨σ',H',I',q⟩:=q
  exact h2 pins s1 σ' H' D I' q
 | ret v=>exact q
 | brk=>exact q
 | cont=>exact q
theorem ai (h1:PS X st t):PSs X [st] t:=by
 intro pins s σ H D I h
 refine wpAny_execs_cons (thn (h1 pins s σ H D I h) λf s1 q =>?_)
 cases f with
 | next=>exact AM q
 | ret v=>exact q
 | brk=>exact q
 | cont=>exact q
theorem Inv.quiet {pins:List (Addr×Obj)}{σ:St}{H:Hp}{s:wu}(I:Inv X pins σ H s):interactive X.env=false:=by simp[interactive,I.ok.kind]
def vx (te:TE):TS:=λD σ H=>te σ H λ_ H1=>D.nx σ H1
theorem iA (he:PE X e te)(hs:swapsWith e none pos.line X.env=pure false:=by rfl):PS X (.Expr e pos) (vx te):=by
 intro pins s σ H D I h
 exact wpAny_Expr_any (thn (he pins s σ H _ I h) λv s1 ⟨x,H1,I1,r1,q1⟩=>⟨σ,H1,I1,q1⟩) I.quiet hs
def tRet (te:TE):TS:=λD σ H=>te σ H D.rt
theorem au (he:PE X e te):PS X (.Return (some e) pos) (tRet te):=by
 intro pins s σ H D I h
 exact wpAny_Return_some (thn (he pins s σ H _ I h) λv s1 ⟨x,H1,I1,r1,q1⟩=>⟨x,σ,H1,I1,r1,q1⟩)
def tIfS (c:TT)(t u:TS):TS:=λD σ H=>c σ H λb H1=>if b=true then t D σ H1 else u D σ H1
theorem aN {c:Expr}{a b:List Stmt}{tc:TT}(hc:PT X c tc)(ha:PSs X a t)(hb:PSs X b u):PS X (.If c a b pos) (tIfS tc t u):=by
 intro pins s σ H D I h
 refine wpAny_If (thn (hc pins s σ H _ I h) λd s1 ⟨H1,I1,q1⟩ =>?_)
 cases d with
 | true=>exact ha pins s1 σ H1 D I1 q1
 | false=>exact hb pins s1 σ H1 D I1 q1
def uz:TS:=λ_ _ _=>False
theorem gK {sts:List Stmt}:PSs X sts uz:=λ_ _ _ _ _ _ h=>h.elim
end
abbrev TG:=V->St->Hp->(St->Hp->Prop)->Prop
abbrev TGs:=List V->St->Hp->(St->Hp->Prop)->Prop
def PG (X:Cx)(target:Expr)(t:TG):Prop :=
 ∀(pins:List (Addr×Obj)) (s:wu) (σ:St) (H:Hp) (v:V) (u:wm) (Q:St->Hp->Prop),Inv X pins σ H s->RelV v u->t v σ H Q →
  wX (xk X.prog X.w) X.A (assign target X.env u) (λ_ s'=>∃σ' H',Inv X pins σ' H' s'/\Q σ' H') X.xe s
def PGs (X:Cx)(ts:List Expr)(t:TGs):Prop :=
 ∀(pins:List (Addr×Obj)) (s:wu) (σ:St) (H:Hp) (vs:List V) (us:List wm) (Q:St->Hp->Prop),Inv X pins σ H s->Vals vs us->t vs σ H Q →
  wX (xk X.prog X.w) X.A (assignInOrder ((assignEach ts X.env).map (·.2)) us) (λ_ s'=>∃σ' H',Inv X pins σ' H' s'/\Q σ' H') X.xe s
abbrev qy:=V->V->V->Hp->(Hp->Prop)->Prop
def uA (X:Cx)(t:qy):Prop :=
 ∀(pins:List (Addr×Obj)) (s:wu) (σ:St) (H:Hp) (o i v:V) (ov iv u:wm) (Q:Hp->Prop),Inv X pins σ H s->RelV o ov->RelV i iv->RelV v u->t o i v H Q →
  wX (xk X.prog X.w) X.A (setItem ov iv u) (λ_ s'=>∃H',Inv X pins σ H' s'/\Q H') X.xe s
abbrev TIp:=V->V->Hp->VK->Prop
def PIp (X:Cx)(op:Operator)(t:TIp):Prop :=
 ∀(pins:List (Addr×Obj)) (s:wu) (σ:St) (H:Hp) (x y:V) (v u:wm) (Q:VK),Inv X pins σ H s->RelV x v->RelV y u->t x y H Q →
  wX (xk X.prog X.w) X.A (inplaceOp op v u) (EP X pins σ Q) X.xe s
section
variable  {X:Cx}{pos:Pos}
def dC (i:Nat):TG:=λv σ H Q=>Q (σ.set i (some v)) H
theorem aD {i:Nat}{x:Str}(hN:X.N.Nodup)(hi:X.N[i]? = some x)(hx:Loc X.env.scope x)(hf:X.fn x=true\/X.env.scope.names.lookup x=some .local:=by first | exact .inl rfl | exact .inr rfl | assumption):PG X (.Name x pos) (dC i):=by
 intro pins s σ H v u Q I r h
 exact wpAny_assign_Name (lE I hN hi hx r (λs' I'=>⟨_,H,I',h⟩) hf)
def vy:TGs:=λvs σ H Q=>vs=[]/\Q σ H
def qz (t:TG)(u:TGs):TGs:=λvs σ H Q=>∃v r,vs=v :: r/\t v σ H λσ' H'=>u r σ' H' Q
theorem fu:PGs X [] vy:=by
 intro pins s σ H vs us Q I r h
 obtain ⟨e,h⟩:=h
 subst e
 cases r
 exact assignInOrder_nil ⟨σ,H,I,h⟩
theorem bH {e:Expr}{es:List Expr}{t:TG}{u:TGs}(h1:PG X e t)(h2:PGs X es u)
  (hs:(assignEach (e :: es) X.env).map (·.2)=assign e X.env :: (assignEach es X.env).map (·.2):=by rfl):PGs X (e :: es) (qz t u):=by
 intro pins s σ H vs us Q I r h
 obtain ⟨v,vr,e1,h⟩:=h
 subst e1
 cases r with
 | cons r rr =>
  rw[hs]
  refine assignInOrder_cons (thn (h1 pins s σ H _ _ _ I r h) λ_ s1 ⟨σ1,H1,I1,q1⟩ =>?_)
  exact h2 pins s1 σ1 H1 _ _ Q I1 rr q1
def vz (K:wc)(n:Nat)(t:TGs):TG:=λv σ H Q=>∃a xs,v = .ref a/\SqT K H a xs/\xs.length=n/\t xs σ H Q
theorem gL {es:List Expr}{k:Nat}{t:TGs}{n:Nat}(hc:X.calm=true)(h:PGs X es t)
  (hn:(assignEach es X.env).length=n:=by rfl) (hst:(assignEach es X.env).findIdx? (·.1)=none:=by rfl):PG X (.Tuple es k pos) (vz X.K n t):=by
 intro pins s σ H v u Q I r hw
 obtain ⟨a,xs,e1,hq,hl,hw⟩:=hw
 subst e1
 cases r
 obtain ⟨its,rv,ht,hz⟩:=I.tuple hq
 refine assign_Tuple_tuple (I.ok.hd hc) ht (by simp[hn, <- hl,rv.length]) hst λh' hx =>?_
 have I1:Inv X pins σ H { s with heap:=h' }:=I.kept (t':=s.toks) λb o e=>hx b o (wV (wJ e)) e
 exact h pins _ σ H xs _ Q I1 (by simpa using rv) hw
def gSub (to ti:TE)(t:qy):TG:=λv σ H Q=>to σ H λo H1=>ti σ H1 λi H2=>t o i v H2 λH3=>Q σ H3
theorem mN {o i:Expr}{to ti:TE}{t:qy}(ho:PE X o to)(hi:PE X i ti)(hs:uA X t)
    (ha:∀v,assign (.Subscript o i pos) X.env v=(do
      let ov ← C3 [v] (eval o X.env)
      let iv ← C3 [v,ov] (eval i X.env)
      standAt pos
      C3 [v,ov,iv] (setItem ov iv v)
      release [v,ov,iv] []):=by intro _;rfl):PG X (.Subscript o i pos) (gSub to ti t):=by
  intro pins s σ H v u Q I r h
  rw[ha]
  refine wg (yi (thn (ho pins s σ H _ I h) λov s1 ⟨x,H1,I1,r1,q1⟩ =>?_))
  refine wg (yi (thn (hi pins s1 σ H1 _ I1 q1) λiv s2 ⟨y,H2,I2,r2,q2⟩ =>?_))
  refine wg (CI (wg (yi (thn (hs pins s2 σ H2 x y v ov iv u _ I2 r1 r2 r q2) λ_ s3 ⟨H3,I3,q3⟩ =>?_))))
  exact wpAny_release ⟨σ,H3,I3,q3⟩
def uB (te:TE)(g:TG):TS:=λD σ H=>te σ H λx H1=>g x σ H1 D.nx
theorem iQ {tg e:Expr}{te:TE}{g:TG}(he:PE X e te)(hg:PG X tg g)(hs:swapsWithSole [tg] e pos.line X.env=pure false:=by rfl)(hw:swappedStores [tg] e X.env=pure none:=by rfl)
  (h1:(assignEach [tg] X.env).map (·.2)=[assign tg X.env]:=by rfl):PS X (.Assign [tg] e pos) (uB te g):=by
 intro pins s σ H D I h
 refine wpAny_Assign_stores (thn (he pins s σ H _ I h) λv s1 ⟨x,H1,I1,r1,q1⟩ =>?_) hs hw
 rw[h1]
 exact thn (hg pins s1 σ H1 x v _ I1 r1 q1) λ_ s2 q=>q
theorem aH {i:Nat}{x:Str}{e:Expr}{te:TE}{pos':Pos}(hN:X.N.Nodup)(hi:X.N[i]? = some x)(hx:Loc X.env.scope x)(he:PE X e te)(hs:swapsWith e (some (.Name x pos')) pos.line X.env=pure false:=by rfl)(hf:X.fn x=true\/X.env.scope.names.lookup x=some .local:=by first | exact .inl rfl | exact .inr rfl | assumption) :
  PS X (.Assign [.Name x pos'] e pos) (uB te (dC i)):=by
 intro pins s σ H D I h
 refine wpAny_Assign_Name (thn (he pins s σ H _ I h) λv s1 ⟨y,H1,I1,r1,q1⟩ =>?_) hs
 exact lE I1 hN hi hx r1 (λs2 I2=>⟨_,H1,I2,q1⟩) hf
def vA (to ti te:TE)(tget:V->V->Hp->VK->Prop)(tip:TIp)(tset:qy):TS:=λD σ H=>to σ H λo H1=>ti σ H1 λi H2=>tget o i H2 λx H3=>te σ H3 λy H4=>tip x y H4 λz H5=>tset o i z H5 λH6=>D.nx σ H6
def vB (X:Cx)(t:V->V->Hp->VK->Prop):Prop :=
 ∀(pins:List (Addr×Obj)) (s:wu) (σ:St) (H:Hp) (o i:V) (ov iv:wm) (Q:VK),Inv X pins σ H s->RelV o ov->RelV i iv->t o i H Q →
  wX (xk X.prog X.w) X.A (getItem ov iv) (EP X pins σ Q) X.xe s
theorem sr {o i e:Expr}{to ti te:TE}{tget:V->V->Hp->VK->Prop}{tip:TIp}{tset:qy}{op:Operator}{tpos:Pos}(ho:PE X o to)(hi:PE X i ti)(hg:vB X tget)(he:PE X e te)(hp:PIp X op tip)(hs:uA X tset)
    (ha:∀ov iv new,augStore i ov iv new=(do C3 [new,ov,iv] (setItem ov iv new);release [new,ov,iv] [];pure .next):=by intros;rfl):PS X (.AugAssign (.Subscript o i tpos) op e pos) (vA to ti te tget tip tset):=by
  intro pins s σ H D I h
  refine wpAny_AugAssign_SubscriptAny (thn (ho pins s σ H _ I h) λov s1 ⟨x1,H1,I1,r1,q1⟩ =>?_) ha
  refine thn (hi pins s1 σ H1 _ I1 q1) λiv s2 ⟨x2,H2,I2,r2,q2⟩ =>?_
  refine thn (hg pins s2 σ H2 x1 x2 ov iv _ I2 r1 r2 q2) λold s3 ⟨x3,H3,I3,r3,q3⟩ =>?_
  refine thn (he pins s3 σ H3 _ I3 q3) λv s4 ⟨x4,H4,I4,r4,q4⟩ =>?_
  refine thn (hp pins s4 σ H4 x3 x4 old v _ I4 r3 r4 q4) λnew s5 ⟨x5,H5,I5,r5,q5⟩ =>?_
  exact thn (hs pins s5 σ H5 x1 x2 x5 ov iv new _ I5 r1 r2 r5 q5) λ_ s6 ⟨H6,I6,q6⟩=>⟨σ,H6,I6,q6⟩
def ipI (f:Int->Int->Int):TIp:=λx y H Q=>∃i j,x = .int i/\y = .int j/\Q (.int (f i j)) H
theorem uC:PIp X .Add (ipI λi j=>i+j):=by
 intro pins s σ H x y v u Q I r1 r2 h
 obtain ⟨i,j,e1,e2,q⟩:=h
 subst e1;subst e2
 obtain ⟨t,rfl⟩:=r1
 obtain ⟨t',rfl⟩:=r2
 exact iadd_int ⟨.int _,H,I.tok _,⟨_,rfl⟩,q⟩
end
section
variable  {X:Cx}{pos:Pos}
def qA (c:TT)(tb:TS):TS:=λD σ H=>∃W:Nat->St->Hp->Prop,(∃m,W m σ H)/\∀m σ H,W m σ H →
 c σ H λb H1=>if b=true then ∃N:St->Hp->Prop,(∀σ' H',N σ' H'->∃m',m'<m/\W m' σ' H')/\tb { D with nx:=N,ct:=N,bk:=D.nx } σ H1 else D.nx σ H1
theorem qB {c:Expr}{body:List Stmt}{tc:TT}{tb:TS}(hp:PassesOwn (xk X.prog X.w) X.A X.env X.xe)(hc:PT X c tc)(hb:PSs X body tb):PS X (.While c body [] pos) (qA tc tb):=by
 intro pins s σ H D I h
 obtain ⟨W,⟨m0,w0⟩,turn⟩:=h
 refine wpAny_While (codeAny_whileLoop (λn s'=>∃σ' H',Inv X pins σ' H' s'/\W n σ' H') ?_ m0 ⟨σ,H,I,w0⟩)
 rintro n s1 ⟨σ1,H1,I1,w1⟩
 refine zj hp (thn (hc pins s1 σ1 H1 _ I1 (turn n σ1 H1 w1)) λb s2 ⟨H2,I2,q2⟩ =>?_)
 cases b with
 | true =>
  obtain ⟨N,hN,q2⟩:=q2
  rw[if_pos rfl]
  refine zj hp (thn (hb pins s2 σ1 H2 _ I2 q2) λf s3 q3 =>?_)
  cases f with
  | next =>
   obtain ⟨σ3,H3,I3,n3⟩:=q3
   obtain ⟨m',hm,w3⟩:=hN σ3 H3 n3
   exact ⟨m',hm,σ3,H3,I3,w3⟩
  | cont =>
   obtain ⟨σ3,H3,I3,n3⟩:=q3
   obtain ⟨m',hm,w3⟩:=hN σ3 H3 n3
   exact ⟨m',hm,σ3,H3,I3,w3⟩
  | brk=>exact q3
  | ret v=>exact q3
 | false =>
  rw[if_neg wG]
  exact AM ⟨σ1,H2,I2,q2⟩
end
structure It where
 go:Nat->Hp->Prop
 yld:Nat->Hp->V->Hp->Prop
 stop:Nat->Hp->Prop
def iw (X:Cx)(pins:List (Addr×Obj))(H:Hp)(b:Addr):Prop :=
 H b=none/\b≠X.env.locals/\b∉X.fs/\(b∈X.ex\/X.s₀.heap.objs.size<=b)/\(∀x c,X.env.cells.lookup x=some c->c≠b)/\∀p∈X.pn++pins,p.1≠b
theorem Inv.ph {X:Cx}{pins:List (Addr×Obj)}{σ:St}{H H':Hp}{s:wu}{b:Addr}(I:Inv X pins σ H s)(hb:s.heap.objs.size<=b)(hn:H' b=none):iw X pins H' b:=by
 refine ⟨hn,y7 (wO I.lt hb),I.uw hb,.inr (xx I.sz hb),λx c e z =>?_,λp hp z =>?_⟩
 ·obtain ⟨v,q⟩:=I.cell x c e
  exact absurd (wO q.lt (by rw[z];exact hb)) (xK _)
 ·exact absurd (wO (wJ (I.pin p hp).1) (by rw[z];exact hb)) (xK _)
structure Turn (P:wL)(w:xg)(K:wc)(tg:Expr)(J:It)(fp:List Addr)(it:Addr)(tn:Nat->Heap->Prop):Prop where
 mem:it∈fp
 obj:∀i h,tn i h->∀b∈fp,∃o,h.get? b=some o/\∀v,o.data ≠ .cell v
 keep:∀i h h',tn i h->(∀b∈fp,∀o,h.get? b=some o->h'.get? b=some o)->tn i h'
 item:∀(X:Cx),X.prog=P->X.w=w->X.K=K->X.calm=true->∀(i:Nat) (pins:List (Addr×Obj)) (s:wu) (σ:St) (H:Hp) (E:wm->wu->Prop),Inv X pins σ H s->(∀b∈fp,iw X pins H b)->tn i s.heap->J.go i H →
  wX (xk P w) X.A (pyNext (.ref it)) (λr s1=>∃u,r=some u ∧
   wX (xk P w) X.A (letOwnedTupleGo tg (.ref it) u) (λ_ s2=>∃x H',Inv X pins σ H' s2/\RelV x u/\J.yld i H x H'/\tn (i+1) s2.heap/\∀b∈fp,H' b=none) E s1) E s
 done:∀(X:Cx),X.prog=P->X.w=w->X.K=K->X.calm=true->∀(i:Nat) (pins:List (Addr×Obj)) (s:wu) (σ:St) (H:Hp) (E:wm->wu->Prop),Inv X pins σ H s->(∀b∈fp,iw X pins H b)->tn i s.heap->J.stop i H →
  wX (xk P w) X.A (pyNext (.ref it)) (λr s1=>r=none/\Inv X pins σ H s1) E s
 self:∀(A:xF) (i:Nat) (s:wu) (Q:wm->wu->Prop) (E:wm->wu->Prop),tn i s.heap->Q (.ref it) s->wX (xk P w) A (pyIter (.ref it)) Q E s
abbrev TI:=St->Hp->(It->Hp->Prop)->Prop
def PIE (X:Cx)(pins:List (Addr×Obj))(σ:St)(tg:Expr)(R:It->Hp->Prop)(itv:wm)(s2:wu):Prop :=
 ∃(it:Addr) (fp:List Addr) (tn:Nat->Heap->Prop) (J:It) (H':Hp),itv = .ref it/\Inv X pins σ H' s2/\Turn X.prog X.w X.K tg J fp it tn/\tn 0 s2.heap/\(∀b∈fp,iw X pins H' b)/\R J H'
def PI (X:Cx)(tg iter:Expr)(wi:TI):Prop :=
 ∀(pins:List (Addr×Obj)) (s:wu) (σ:St) (H:Hp) (R:It->Hp->Prop),Inv X pins σ H s->wi σ H R →
  wX (xk X.prog X.w) X.A (eval iter X.env) (λv s1=>wX (xk X.prog X.w) X.A (pyIter v) (PIE X pins σ tg R) X.xe s1) X.xe s
theorem nY {M:Model}{A:xF}{E:wm->wu->Prop}{s:wu}{tg:Expr}{it:Addr}{u:wm}{o:Obj}{n:String}{vs:Array wm}{Q:Unit->wu->Prop}(ho:s.heap.get? it=some o)(hc:o.cls = .type n)(hd:o.data = .fields vs)
    (hn:["enumerate", "zip", "dict_itemiterator", "dict_reverseitemiterator", "odict_iterator", "itertools.zip_longest", "itertools.pairwise"].contains n=false) (hQ:Q () s):wX M A (letOwnedTupleGo tg (.ref it) u) Q E s:=by
  unfold letOwnedTupleGo
  cases tg <;> first
    | exact wA hQ
    | (cases u <;> first
        | exact wA hQ
        | (refine wg (DB ho ?_)
           rw[hc,hd]
           show wX M A (if (["enumerate", "zip", "dict_itemiterator", "dict_reverseitemiterator", "odict_iterator", "itertools.zip_longest", "itertools.pairwise"].contains n && vs[0]? == some (DE _))=true then _ else _) Q E s
           rw[if_neg (by intro h;rw[hn,Bool.false_and] at h;cases h)]
           exact wA hQ))
def Itl (K:wc)(a:Addr):It :=
 ⟨λi H=>∃xs x,SqL K H a xs/\xs[i]? = some x,λi H x H'=>H'=H/\∀xs,SqL K H a xs->xs[i]? = some x,λi H=>∃xs,SqL K H a xs/\xs.length<=i⟩
def Itt (K:wc)(a:Addr):It :=
 ⟨λi H=>∃xs x,SqT K H a xs/\xs[i]? = some x,λi H x H'=>H'=H/\∀xs,SqT K H a xs->xs[i]? = some x,λi H=>∃xs,SqT K H a xs/\xs.length<=i⟩
def Itr (lo:Int)(n:Nat):It:=⟨λi _=>i<n,λi H x H'=>H'=H/\x = .int (lo+i),λi _=>n<=i⟩
theorem jR {P:wL}{w:xg}{K:wc}{tg:Expr}(a it:Addr):Turn P w K tg (Itl K a) [it] it (λi h=>h.IsListIter it a i) where
 mem:=by simp
 obj:=λi h st b hb=>by
  have e:b=it:=by simpa using hb
  subst e
  obtain ⟨o,e,c,d⟩:=st
  exact ⟨o,e,λv z=>by rw[d] at z;cases z⟩
 keep:=λi h h' st k=>st.at λo e=>k it (by simp) o e
 item:=by
  intro X hP hw hK hc i pins s σ H E I hf st hg
  subst hP hw hK
  obtain ⟨xs,x,hq,hx⟩:=hg
  obtain ⟨its,rv,p,hz⟩:=I.list hq
  obtain ⟨u,hu,ru⟩:=rv.get hx
  obtain ⟨f0,f1,f2,f3,f4,f5⟩:=hf it (by simp)
  refine wpAny_pyNext_list_item st p.isList (x:=u) (by simpa using hu) λh' st' sb =>?_
  have I1:Inv X pins σ H { s with heap:=h' }:=I.turned (t':=s.toks) (λb o hb e=>(sb.2 b hb).trans e) f0 f1 f3 f4 f5
  obtain ⟨o,e,c,d⟩:=id st'
  exact ⟨u,rfl,nY (s:={ s with heap:=h' }) e c d (by decide) ⟨x,H,I1,ru,⟨rfl,λys hy=>by rw[I.iP hy hq];exact hx⟩,st',λb hb=>(hf b hb).1⟩⟩
 done:=by
  intro X hP hw hK hc i pins s σ H E I hf st hg
  subst hP hw hK
  obtain ⟨xs,hq,hx⟩:=hg
  obtain ⟨its,rv,p,hz⟩:=I.list hq
  obtain ⟨f0,f1,f2,f3,f4,f5⟩:=hf it (by simp)
  have hl:=rv.length
  exact wpAny_pyNext_list_end (I.ok.hd hc) st p.isList (by simp;lia) λh' eb=>⟨rfl,I.turned (t':=s.toks) (λb o hb e=>eb b o hb e) f0 f1 f3 f4 f5⟩
 self:=λ_ _ _ _ _ st h=>wpAny_pyIter_listiter st h
theorem iR {P:wL}{w:xg}{K:wc}{tg:Expr}(a it:Addr):Turn P w K tg (Itt K a) [it] it (λi h=>h.IsTupleIter it a i) where
 mem:=by simp
 obj:=λi h st b hb=>by
  have e:b=it:=by simpa using hb
  subst e
  obtain ⟨o,e,c,d⟩:=st
  exact ⟨o,e,λv z=>by rw[d] at z;cases z⟩
 keep:=λi h h' st k=>st.at λo e=>k it (by simp) o e
 item:=by
  intro X hP hw hK hc i pins s σ H E I hf st hg
  subst hP hw hK
  obtain ⟨xs,x,hq,hx⟩:=hg
  obtain ⟨its,rv,p,hz⟩:=I.tuple hq
  obtain ⟨u,hu,ru⟩:=rv.get hx
  obtain ⟨f0,f1,f2,f3,f4,f5⟩:=hf it (by simp)
  refine wpAny_pyNext_tuple_item st (show s.heap.IsTuple a its.toArray from p) (x:=u) (by simpa using hu) λh' st' sb =>?_
  have I1:Inv X pins σ H { s with heap:=h' }:=I.turned (t':=s.toks) (λb o hb e=>(sb.2 b hb).trans e) f0 f1 f3 f4 f5
  obtain ⟨o,e,c,d⟩:=id st'
  exact ⟨u,rfl,nY (s:={ s with heap:=h' }) e c d (by decide) ⟨x,H,I1,ru,⟨rfl,λys hy=>by rw[I.gJ hy hq];exact hx⟩,st',λb hb=>(hf b hb).1⟩⟩
 done:=by
  intro X hP hw hK hc i pins s σ H E I hf st hg
  subst hP hw hK
  obtain ⟨xs,hq,hx⟩:=hg
  obtain ⟨its,rv,p,hz⟩:=I.tuple hq
  obtain ⟨f0,f1,f2,f3,f4,f5⟩:=hf it (by simp)
  have hl:=rv.length
  exact wpAny_pyNext_tuple_end (I.ok.hd hc) st (show s.heap.IsTuple a its.toArray from p) (by simp;lia) λh' eb=>⟨rfl,I.turned (t':=s.toks) (λb o hb e=>eb b o hb e) f0 f1 f3 f4 f5⟩
 self:=λ_ _ _ _ _ st h=>wpAny_pyIter_tupleiter st h
theorem mO {P:wL}{w:xg}{K:wc}{tg:Expr}(it:Addr)(lo:Int)(n:Nat):Turn P w K tg (Itr lo n) [it] it (λi h=>IsRangeIter h it (lo+(i:Nat)*1) ((n:Int)-(i:Nat)) 1) where
 mem:=by simp
 obj:=λi h st b hb=>by
  have e:b=it:=by simpa using hb
  subst e
  exact ⟨_,st,λv z=>by
   have z':Data.fields _=Data.cell v:=z
   cases z'⟩
 keep:=λi h h' st k=>k it (by simp) _ st
 item:=by
  intro X hP hw hK hc i pins s σ H E I hf st hg
  subst hP hw hK
  obtain ⟨f0,f1,f2,f3,f4,f5⟩:=hf it (by simp)
  have W:=Walks.range (prog:=X.prog) (w:=X.w) (I.ok.hd hc) it lo 1 n
  refine W.item i s _ _ hg st λv h' tk hv st' kk =>?_
  obtain ⟨t,rfl⟩:=hv
  have I1:Inv X pins σ H { s with heap:=h',toks:=tk }:=I.turned (λb o hb e=>kk b o (by simpa using hb) e) f0 f1 f3 f4 f5
  refine ⟨_,rfl,nY (s:={ s with heap:=h',toks:=tk }) (n := "range_iterator") st' rfl rfl (by decide) ⟨.int (lo+i),H,I1,⟨t,?_⟩,⟨rfl,rfl⟩,st',λb hb=>(hf b hb).1⟩⟩
  rw[Int.mul_one]
 done:=by
  intro X hP hw hK hc i pins s σ H E I hf st hg
  subst hP hw hK
  obtain ⟨f0,f1,f2,f3,f4,f5⟩:=hf it (by simp)
  exact wpAny_pyNext_range_end (I.ok.hd hc) st (by have:n<=i:=hg;lia) λh' eb=>⟨rfl,I.turned (t':=s.toks) (λb o hb e=>eb b o hb e) f0 f1 f3 f4 f5⟩
 self:=λ_ _ _ _ _ st h=>wpAny_pyIter_rangeiter st h
open PySem PySem.Spec PyProof.Rows
section
variable  {X:Cx}{tg:Expr}
def vC (K:wc)(tl:TE):TI:=λσ H R=>tl σ H λx H1=>∃a,x = .ref a/\(∃xs,SqL K H1 a xs)/\R (Itl K a) H1
def vD (K:wc)(tl:TE):TI:=λσ H R=>tl σ H λx H1=>∃a,x = .ref a/\(∃xs,SqT K H1 a xs)/\R (Itt K a) H1
theorem cI {l:Expr}{tl:TE}(hl:PE X l tl):PI X tg l (vC X.K tl):=by
 intro pins s σ H R I h
 refine thn (hl pins s σ H _ I h) λv s1 ⟨x,H1,I1,r1,q1⟩ =>?_
 obtain ⟨a,e,⟨xs,hq⟩,q⟩:=q1
 subst e
 cases r1
 obtain ⟨its,rv,p,hz⟩:=I1.list hq
 refine zR p.isList ?_
 refine ⟨s1.heap.objs.size,[s1.heap.objs.size],_,_,H1,rfl,I1.kept (t':=s1.toks) λb o e=>we _ e,jR a _,⟨_,wH _ rfl,rfl,rfl⟩,λb hb =>?_,q⟩
 have e:b=s1.heap.objs.size:=by simpa using hb
 subst e
 exact I1.ph (wq _) (I1.hok.fresh (wq _))
theorem cW {l:Expr}{tl:TE}(hl:PE X l tl):PI X tg l (vD X.K tl):=by
 intro pins s σ H R I h
 refine thn (hl pins s σ H _ I h) λv s1 ⟨x,H1,I1,r1,q1⟩ =>?_
 obtain ⟨a,e,⟨xs,hq⟩,q⟩:=q1
 subst e
 cases r1
 obtain ⟨its,rv,p,hz⟩:=I1.tuple hq
 refine yB (show s1.heap.IsTuple a its.toArray from p) ?_
 refine ⟨s1.heap.objs.size,[s1.heap.objs.size],_,_,H1,rfl,I1.kept (t':=s1.toks) λb o e=>we _ e,iR a _,⟨_,wH _ rfl,rfl,rfl⟩,λb hb =>?_,q⟩
 have e:b=s1.heap.objs.size:=by simpa using hb
 subst e
 exact I1.ph (wq _) (I1.hok.fresh (wq _))
theorem lF {pins:List (Addr×Obj)}{σ:St}{H:Hp}{s:wu}{R:It->Hp->Prop}{E:wm->wu->Prop}{lo hi:Int}{t u v:Tok}{tk:Nat}(I:Inv X pins σ H s)(h1 : -(2 ^ 62)<=lo)(h2:lo<2 ^ 62)(h3 : -(2 ^ 62)<=hi)(h4:hi<2 ^ 62)
  (q:R (Itr lo (hi-lo).toNat) H):wX (xk X.prog X.w) X.A (pyIter (.ref s.heap.objs.size)) (PIE X pins σ tg R) E { s with heap:=s.heap.push { cls :=.type "range",data :=.fields #[.int lo t,.int hi u,.int 1 v] },toks:=tk }:=by
 refine wpAny_pyIter_range (IsRange.new ..) (small_one h1 h2 h3 h4) ?_
 have I1:Inv X pins σ H { s with heap:=s.heap.push { cls :=.type "range",data :=.fields #[.int lo t,.int hi u,.int 1 v] },toks:=tk }:=I.kept λb o e=>we _ e
 refine ⟨(s.heap.push { cls :=.type "range",data :=.fields #[.int lo t,.int hi u,.int 1 v] }).objs.size,[(s.heap.push { cls :=.type "range",data :=.fields #[.int lo t,.int hi u,.int 1 v] }).objs.size],_,_,H,rfl,
  I1.kept (t':=tk) λb o e=>we _ e,mO _ lo (hi-lo).toNat,?_,λb hb =>?_,q⟩
 ·have e1:lo+((0:Nat):Int)*1=lo:=by simp
  have e2:(((hi-lo).toNat:Nat):Int)-((0:Nat):Int)=Builtin.Range.rangeSize lo hi 1:=by rw[rangeSize_one];split <;> lia
  show IsRangeIter _ _ (lo+((0:Nat):Int)*1) ((((hi-lo).toNat:Nat):Int)-((0:Nat):Int)) 1
  rw[e1,e2]
  exact wH _ rfl
 ·have e:b=(s.heap.push { cls :=.type "range",data :=.fields #[.int lo t,.int hi u,.int 1 v] }).objs.size:=by simpa using hb
  subst e
  exact I1.ph (wq _) (I1.hok.fresh (wq _))
def vE (ta:TA):TI:=λσ H R=>ta σ H λvs H1=>∃j:Int,vs=[.int j] /\ -(2 ^ 62)<=j/\j<2 ^ 62/\R (Itr 0 j.toNat) H1
def vF (ta:TA):TI:=λσ H R=>ta σ H λvs H1=>∃i j:Int,vs=[.int i,.int j]/\(-(2 ^ 62)<=i/\i<2 ^ 62 /\ -(2 ^ 62)<=j/\j<2 ^ 62)/\R (Itr i (j-i).toNat) H1
theorem bz {a:Expr}{ta:TA}{p pos:Pos}(hg:Gl X "range")(hm:X.mg "range" = none)(ha:PA X [a] ta)(hs:xO [a] X.env=[(false,eval a X.env)]:=by rfl):PI X tg (.Call (.Name "range" p) [a] [] pos) (vE ta):=by
 intro pins s σ H R I h
 refine Call_ (fO I hg hm boot_range (yw (thn (ha pos pins s σ H _ I h) λus s1 ⟨vs,H1,I1,r1,q1⟩ =>?_) hs rfl))
 obtain ⟨j,e,q1,q2,q⟩:=q1
 subst e
 cases r1 with
 | cons r rr =>
  cases rr
  obtain ⟨t,rfl⟩:=r
  exact call_range_1 (lF I1 (by lia) (by lia) q1 q2 (by simpa using q))
theorem pk {a b:Expr}{ta:TA}{p pos:Pos}(hg:Gl X "range")(hm:X.mg "range" = none)(ha:PA X [a,b] ta)(hs:xO [a,b] X.env=[(false,eval a X.env),(false,eval b X.env)]:=by rfl)(hs2:xO [b] X.env=[(false,eval b X.env)]:=by rfl) :
  PI X tg (.Call (.Name "range" p) [a,b] [] pos) (vF ta):=by
 intro pins s σ H R I h
 refine Call_ (fO I hg hm boot_range (yw (thn (ha pos pins s σ H _ I h) λus s1 ⟨vs,H1,I1,r1,q1⟩ =>?_) (by rw[hs,hs2]) (by rw[hs2];rfl)))
 obtain ⟨i,j,e,⟨q1,q2,q3,q4⟩,q⟩:=q1
 subst e
 cases r1 with
 | cons r rr =>
  cases rr with
  | cons r' rr =>
   cases rr
   obtain ⟨t,rfl⟩:=r
   obtain ⟨t',rfl⟩:=r'
   exact call_range_2 (lF I1 q1 q2 q3 q4 q)
def tFor (wi:TI)(g:TG)(tb:TS):TS:=λD σ H=>wi σ H λJ H1=>∃W:Nat->Nat->St->Hp->Prop,(∃m,W 0 m σ H1)/\∀i m σ H,W i m σ H →
 (J.stop i H/\D.nx σ H)\/(J.go i H/\∃N:St->Hp->Prop,(∀σ' H',N σ' H'->∃m',m'<m/\W (i+1) m' σ' H')/\∀x H',J.yld i H x H'->g x σ H' λσ2 H2=>tb { D with nx:=N,ct:=N,bk:=D.nx } σ2 H2)
def fQ (fp:List Addr)(h:Heap):List (Addr×Obj):=fp.filterMap λb=>(h.get? b).map λo=>(b,o)
theorem cX {fp:List Addr}{h:Heap}{b:Addr}{o:Obj}(hb:b∈fp)(e:h.get? b=some o):(b,o)∈fQ fp h:=AW.mpr ⟨b,hb,by rw[e];rfl⟩
theorem jS {fp:List Addr}{h:Heap}{p:Addr×Obj}(hp:p∈fQ fp h):p.1∈fp/\h.get? p.1=some p.2:=by
 obtain ⟨b,hb,e⟩:=AW.mp hp
 cases q:h.get? b with
 | none=>rw[q] at e;cases e
 | some o =>
  rw[q] at e
  have e':(b,o)=p:=xt e
  subst e'
  exact ⟨hb,q⟩
theorem Inv.pinned {pins:List (Addr×Obj)}{σ:St}{H:Hp}{s:wu}{fp:List Addr}(I:Inv X pins σ H s)(hf:∀b∈fp,iw X pins H b)(ho:∀b∈fp,∃o,s.heap.get? b=some o/\∀v,o.data ≠ .cell v):Inv X (pins++fQ fp s.heap) σ H s :=
 I.gj λp hp=>(wC.mp hp).elim (λz=>I.pin p (xb _ z)) λz=>by
  obtain ⟨hb,e⟩:=jS z
  obtain ⟨f0,f1,f2,_⟩:=hf p.1 hb
  obtain ⟨o,e',d⟩:=ho p.1 hb
  rw[e] at e';cases e'
  exact ⟨e,f0,f1,f2,d⟩
theorem Inv.dD {pins pl:List (Addr×Obj)}{σ:St}{H:Hp}{s:wu}(I:Inv X (pins++pl) σ H s):Inv X pins σ H s:=I.gj λp hp=>I.pin p (xb _ (yb _ hp))
theorem cv {iter:Expr}{body:List Stmt}{wi:TI}{g:TG}{tb:TS}{pos:Pos}(hp:PassesOwn (xk X.prog X.w) X.A X.env X.xe)(hc:X.calm=true)(hi:PI X tg iter wi)(hg:PG X tg g)(hb:PSs X body tb)
  (hs:∀x,foldedSetIterable iter X.env x=pure x:=by intro _;rfl):PS X (.For tg iter body [] pos) (tFor wi g tb):=by
 intro pins s σ H D I h
 refine wpAny_For (thn (hi pins s σ H _ I h) λv s1 h1=>thn h1 λitv s2 h2 =>?_) hs
 obtain ⟨it,fp,tn,J,H2,e,I2,T,st2,f2,W,⟨m0,w0⟩,turn⟩:=h2
 subst e
 have stat:∀{H':Hp},(∀b∈fp,H' b=none)->∀b∈fp,iw X pins H' b:=λhn b hb=>⟨hn b hb,(f2 b hb).2⟩
 refine codeAny_forLoop_any (λn s'=>∃i σ' H',Inv X pins σ' H' s'/\tn i s'.heap/\(∀b∈fp,H' b=none)/\W i n σ' H') ?_ m0 ⟨0,σ,H2,I2,st2,λb hb=>(f2 b hb).1,w0⟩
 rintro n s3 ⟨i,σ3,H3,I3,st3,fr3,w3⟩
 rcases turn i n σ3 H3 w3 with ⟨stop,qn⟩ | ⟨go,N,hN,step⟩
 ·refine zj hp (thn (T.done X rfl rfl rfl hc i pins s3 σ3 H3 X.xe I3 (stat fr3) st3 stop) λr s4 ⟨hr,I4⟩ =>?_)
  subst hr
  exact AM ⟨σ3,H3,I4,qn⟩
 ·refine zj hp (thn (T.item X rfl rfl rfl hc i pins s3 σ3 H3 X.xe I3 (stat fr3) st3 go) λr s4 ⟨u,hr,h4⟩ =>?_)
  subst hr
  refine zj hp (thn h4 λ_ s5 ⟨x,H5,I5,r5,y5,st5,fr5⟩ =>?_)
  have I5':=I5.pinned (stat fr5) (T.obj _ _ st5)
  refine zj hp (thn (hg _ s5 σ3 H5 x u _ I5' r5 (step x H5 y5)) λ_ s6 ⟨σ6,H6,I6,q6⟩ =>?_)
  refine zj hp (thn (hb _ s6 σ6 H6 _ I6 q6) λf s7 q7 =>?_)
  have again:∀{σ7:St} {H7:Hp},Inv X (pins++fQ fp s5.heap) σ7 H7 s7->N σ7 H7->∃m,m<n/\∃i σ' H',Inv X pins σ' H' s7/\tn i s7.heap/\(∀b∈fp,H' b=none)/\W i m σ' H':=λ{σ7 H7} I7 n7=>by
   obtain ⟨m',hm,w7⟩:=hN σ7 H7 n7
   refine ⟨m',hm,i+1,σ7,H7,I7.dD,T.keep _ _ _ st5 λb hb o e=>(I7.pin (b,o) (xb _ (xb _ (cX hb e)))).1,λb hb =>?_,w7⟩
   obtain ⟨o,e,d⟩:=T.obj _ _ st5 b hb
   exact (I7.pin (b,o) (xb _ (xb _ (cX hb e)))).2.1
  cases f with
  | next=>obtain ⟨σ7,H7,I7,n7⟩:=q7;exact again I7 n7
  | cont=>obtain ⟨σ7,H7,I7,n7⟩:=q7;exact again I7 n7
  | brk=>obtain ⟨σ7,H7,I7,q7⟩:=q7;exact ⟨σ7,H7,I7.dD,q7⟩
  | ret v=>obtain ⟨x7,σ7,H7,I7,r7,q7⟩:=q7;exact ⟨x7,σ7,H7,I7.dD,r7,q7⟩
end
theorem dE {K:wc}{a:Addr}{xs:List V}{g:TG}{tb:TS}{D:Ends}{σ:St}{H:Hp}(Pv:Nat->St->Hp->Prop)(h0:Pv 0 σ H)(hl:∀i σ H,i<=xs.length->Pv i σ H->SqL K H a xs)
  (hs:∀i x σ H,xs[i]? = some x->Pv i σ H->g x σ H λσ2 H2=>tb { D with nx:=Pv (i+1),ct:=Pv (i+1),bk:=D.nx } σ2 H2) (hd:∀σ H,Pv xs.length σ H->D.nx σ H) :
  ∃W:Nat->Nat->St->Hp->Prop,(∃m,W 0 m σ H)/\∀i m σ H,W i m σ H →
   ((Itl K a).stop i H/\D.nx σ H)\/((Itl K a).go i H/\∃N:St->Hp->Prop,(∀σ' H',N σ' H'->∃m',m'<m/\W (i+1) m' σ' H')/\∀x H',(Itl K a).yld i H x H'->g x σ H' λσ2 H2=>tb { D with nx:=N,ct:=N,bk:=D.nx } σ2 H2):=by
 refine ⟨λi m σ H=>m=xs.length-i/\i<=xs.length/\Pv i σ H,⟨xs.length,by simp,xH _,h0⟩,?_⟩
 rintro i m σ H ⟨rfl,hi,p⟩
 have q:=hl i σ H hi p
 by_cases hlt:i<xs.length
 ·refine .inr ⟨⟨xs,xs[i],q,by simp[hlt]⟩,Pv (i+1),λσ' H' p'=>⟨xs.length-(i+1),by lia,rfl,hlt,p'⟩,λx H' y =>?_⟩
  obtain ⟨e,y⟩:=y
  subst e
  exact hs i x σ _ (y xs q) p
 ·have e:i=xs.length:=by lia
  subst e
  exact .inl ⟨⟨xs,q,wq _⟩,hd σ H p⟩
theorem nZ {K:wc}{a:Addr}{xs:List V}{g:TG}{tb:TS}{D:Ends}{σ:St}{H:Hp}(Pv:Nat->St->Hp->Prop)(h0:Pv 0 σ H)(hl:∀i σ H,i<=xs.length->Pv i σ H->SqT K H a xs)
  (hs:∀i x σ H,xs[i]? = some x->Pv i σ H->g x σ H λσ2 H2=>tb { D with nx:=Pv (i+1),ct:=Pv (i+1),bk:=D.nx } σ2 H2) (hd:∀σ H,Pv xs.length σ H->D.nx σ H) :
  ∃W:Nat->Nat->St->Hp->Prop,(∃m,W 0 m σ H)/\∀i m σ H,W i m σ H →
   ((Itt K a).stop i H/\D.nx σ H)\/((Itt K a).go i H/\∃N:St->Hp->Prop,(∀σ' H',N σ' H'->∃m',m'<m/\W (i+1) m' σ' H')/\∀x H',(Itt K a).yld i H x H'->g x σ H' λσ2 H2=>tb { D with nx:=N,ct:=N,bk:=D.nx } σ2 H2):=by
 refine ⟨λi m σ H=>m=xs.length-i/\i<=xs.length/\Pv i σ H,⟨xs.length,by simp,xH _,h0⟩,?_⟩
 rintro i m σ H ⟨rfl,hi,p⟩
 have q:=hl i σ H hi p
 by_cases hlt:i<xs.length
 ·refine .inr ⟨⟨xs,xs[i],q,by simp[hlt]⟩,Pv (i+1),λσ' H' p'=>⟨xs.length-(i+1),by lia,rfl,hlt,p'⟩,λx H' y =>?_⟩
  obtain ⟨e,y⟩:=y
  subst e
  exact hs i x σ _ (y xs q) p
 ·have e:i=xs.length:=by lia
  subst e
  exact .inl ⟨⟨xs,q,wq _⟩,hd σ H p⟩
theorem dF {lo:Int}{n:Nat}{g:TG}{tb:TS}{D:Ends}{σ:St}{H:Hp}(Pv:Nat->St->Hp->Prop)(h0:Pv 0 σ H)
  (hs:∀i σ H,i<n->Pv i σ H->g (.int (lo+i)) σ H λσ2 H2=>tb { D with nx:=Pv (i+1),ct:=Pv (i+1),bk:=D.nx } σ2 H2) (hd:∀σ H,Pv n σ H->D.nx σ H) :
  ∃W:Nat->Nat->St->Hp->Prop,(∃m,W 0 m σ H)/\∀i m σ H,W i m σ H →
   ((Itr lo n).stop i H/\D.nx σ H)\/((Itr lo n).go i H/\∃N:St->Hp->Prop,(∀σ' H',N σ' H'->∃m',m'<m/\W (i+1) m' σ' H')/\∀x H',(Itr lo n).yld i H x H'->g x σ H' λσ2 H2=>tb { D with nx:=N,ct:=N,bk:=D.nx } σ2 H2):=by
 refine ⟨λi m σ H=>m=n-i/\i<=n/\Pv i σ H,⟨n,by simp,xH _,h0⟩,?_⟩
 rintro i m σ H ⟨rfl,hi,p⟩
 by_cases hlt:i<n
 ·refine .inr ⟨hlt,Pv (i+1),λσ' H' p'=>⟨n-(i+1),by lia,rfl,hlt,p'⟩,λx H' y =>?_⟩
  obtain ⟨e,y⟩:=y
  subst e y
  exact hs i σ _ hlt p
 ·have e:i=n:=by lia
  subst e
  exact .inl ⟨wq _,hd σ H p⟩
theorem qC {c:TT}{tb:TS}{D:Ends}{σ:St}{H:Hp}(Pv:St->Hp->Prop)(μ:St->Hp->Nat)(h0:Pv σ H)
  (hs:∀σ H,Pv σ H->c σ H λb H1=>if b=true then tb { D with nx:=λσ' H'=>Pv σ' H' /\ μ σ' H'<μ σ H,ct:=λσ' H'=>Pv σ' H' /\ μ σ' H'<μ σ H,bk:=D.nx } σ H1 else D.nx σ H1)
  (mono:∀σ H Q Q',(∀b H1,Q b H1->Q' b H1)->c σ H Q->c σ H Q'):qA c tb D σ H:=by
 refine ⟨λm σ H=>m=μ σ H/\Pv σ H,⟨_,rfl,h0⟩,?_⟩
 rintro m σ H ⟨rfl,p⟩
 refine mono σ H _ _ (λb H1 q =>?_) (hs σ H p)
 cases b with
 | true=>exact ⟨_,λσ' H' ⟨p',l⟩=>⟨_,l,rfl,p'⟩,q⟩
 | false=>exact q
open PySem PySem.Spec PyProof.Rows
abbrev R2:=V->V->Hp->VK->Prop
def OpR (X:Cx)(f:wm->wm->Sem wm)(r:R2):Prop :=
 ∀(pins:List (Addr×Obj)) (s:wu) (σ:St) (H:Hp) (x y:V) (v u:wm) (Q:VK),Inv X pins σ H s->RelV x v->RelV y u->r x y H Q →
  wX (xk X.prog X.w) X.A (f v u) (EP X pins σ Q) X.xe s
def UnR (X:Cx)(f:wm->Sem wm)(r:V->Hp->VK->Prop):Prop :=
 ∀(pins:List (Addr×Obj)) (s:wu) (σ:St) (H:Hp) (x:V) (v:wm) (Q:VK),Inv X pins σ H s->RelV x v->r x H Q →
  wX (xk X.prog X.w) X.A (f v) (EP X pins σ Q) X.xe s
def bL (X:Cx)(f:wm)(r:List V->Hp->VK->Prop):Prop :=
 ∀(pins:List (Addr×Obj)) (s:wu) (σ:St) (H:Hp) (xs:List V) (us:List wm) (Q:VK),Inv X pins σ H s->Vals xs us->r xs H Q →
  wX (xk X.prog X.w) X.A (call f us) (EP X pins σ Q) X.xe s
def tOp (r:R2)(ta tb:TE):TE:=λσ H Q=>ta σ H λx H1=>tb σ H1 λy H2=>r x y H2 Q
def tUn (r:V->Hp->VK->Prop)(ta:TE):TE:=λσ H Q=>ta σ H λx H1=>r x H1 Q
def rI (C:Int->Int->Prop)(g:Int->Int->V):R2:=λx y H Q=>∃i j,x = .int i/\y = .int j/\C i j/\Q (g i j) H
def rI0 (g:Int->Int->V):R2:=λx y H Q=>∃i j,x = .int i/\y = .int j/\Q (g i j) H
def rU (g:Int->V):V->Hp->VK->Prop:=λx H Q=>∃i,x = .int i/\Q (g i) H
section
variable  {X:Cx}{a b c:Expr}{ta tb tc:TE}{pos:Pos}
theorem uD (ha:PE X a ta)(hb:PE X b tb){pins:List (Addr×Obj)}{s:wu}{σ:St}{H:Hp}{R:V->V->Hp->Prop}(I:Inv X pins σ H s)
  (h:ta σ H λx H1=>tb σ H1 λy H2=>R x y H2) {Q:wm->wu->Prop} {f:wm->wm->Sem wm}
  (hf:∀v u s2 x y H2,Inv X pins σ H2 s2->RelV x v->RelV y u->R x y H2->wX (xk X.prog X.w) X.A (f v u) Q X.xe s2) :
  wX (xk X.prog X.w) X.A (eval a X.env) (λv s₁=>wX (xk X.prog X.w) X.A (eval b X.env) (λu s₂=>wX (xk X.prog X.w) X.A (f v u) Q X.xe s₂) X.xe s₁) X.xe s:=by
 refine thn (ha pins s σ H _ I h) λv s1 ⟨x,H1,I1,r1,q1⟩ =>?_
 refine thn (hb pins s1 σ H1 _ I1 q1) λu s2 ⟨y,H2,I2,r2,q2⟩ =>?_
 exact hf v u s2 x y H2 I2 r1 r2 q2
theorem aE {op:Operator}{r:R2}(ho:OpR X (binaryOp op) r)(ha:PE X a ta)(hb:PE X b tb):PE X (.BinOp a op b pos) (tOp r ta tb):=by
 intro pins s σ H Q I h
 exact wpAny_BinOp (uD ha hb I h λv u s2 x y H2 I2 rx ry q=>ho pins s2 σ H2 x y v u Q I2 rx ry q)
theorem jT {op:UnaryOp}{r:V->Hp->VK->Prop}(ho:UnR X (unaryOp op) r)(ha:PE X a ta):PE X (.UnaryOp op a pos) (tUn r ta):=by
 intro pins s σ H Q I h
 exact UnaryOp_ (thn (ha pins s σ H _ I h) λv s1 ⟨x,H1,I1,r1,q1⟩=>ho pins s1 σ H1 x v Q I1 r1 q1)
theorem opI {f:wm->wm->Sem wm}{C:Int->Int->Prop}{g:Int->Int->Int}
  (rule:∀(i j:Int) (t u:Tok) (s:wu) (Q:wm->wu->Prop) (E:wm->wu->Prop),C i j->Q (.int (g i j) s.toks) { s with toks:=s.toks+1 }->wX (xk X.prog X.w) X.A (f (.int i t) (.int j u)) Q E s) :
  OpR X f (rI C λi j =>.int (g i j)):=by
 intro pins s σ H x y v u Q I rx ry h
 obtain ⟨i,j,rfl,rfl,hc,q⟩:=h
 obtain ⟨t,rfl⟩:=rx
 obtain ⟨t',rfl⟩:=ry
 exact rule i j t t' s _ _ hc ⟨.int (g i j),H,I.tok _,⟨_,rfl⟩,q⟩
theorem vG {f:wm->wm->Sem wm}{g:Int->Int->Int}
  (rule:∀(i j:Int) (t u:Tok) (s:wu) (Q:wm->wu->Prop) (E:wm->wu->Prop),Q (.int (g i j) s.toks) { s with toks:=s.toks+1 }->wX (xk X.prog X.w) X.A (f (.int i t) (.int j u)) Q E s) :
  OpR X f (rI0 λi j =>.int (g i j)):=by
 intro pins s σ H x y v u Q I rx ry h
 obtain ⟨i,j,rfl,rfl,q⟩:=h
 obtain ⟨t,rfl⟩:=rx
 obtain ⟨t',rfl⟩:=ry
 exact rule i j t t' s _ _ ⟨.int (g i j),H,I.tok _,⟨_,rfl⟩,q⟩
theorem su {f:wm->wm->Sem wm}{g:Int->Int->Bool}
  (rule:∀(i j:Int) (t u:Tok) (s:wu) (Q:wm->wu->Prop) (E:wm->wu->Prop),Q (.bool (g i j)) s->wX (xk X.prog X.w) X.A (f (.int i t) (.int j u)) Q E s) :
  OpR X f (rI0 λi j =>.bl (g i j)):=by
 intro pins s σ H x y v u Q I rx ry h
 obtain ⟨i,j,rfl,rfl,q⟩:=h
 obtain ⟨t,rfl⟩:=rx
 obtain ⟨t',rfl⟩:=ry
 exact rule i j t t' s _ _ ⟨.bl (g i j),H,I,rfl,q⟩
def CDiv (i j:Int):Prop:=0<j/\j<1073741824
def CPow (i j:Int):Prop:=0<=j/\j<=1000000/\i.natAbs<2 ^ 64
def uE (i j:Int):Prop:=(-(2 ^ 64)<i/\i<2 ^ 64)\/(-(2 ^ 64)<j/\j<2 ^ 64)
theorem uE.ok {i j:Int}(h:uE i j):IntMulOk i j:=by
 rcases h with ⟨h1,h2⟩ | ⟨h1,h2⟩
 ·exact .of_left (intBits_le_64 h1 h2)
 ·exact .of_right (intBits_le_64 h1 h2)
theorem bh:OpR X (binaryOp .Add) (rI0 λi j =>.int (i+j)):=vG λ_ _ _ _ _ _ _ q=>add_int q
theorem cY:OpR X (binaryOp .Sub) (rI0 λi j =>.int (i-j)):=vG λ_ _ _ _ _ _ _ q=>sub_int q
theorem gM:OpR X (binaryOp .Mult) (rI uE λi j =>.int (i*j)):=opI λ_ _ _ _ _ _ _ hc q=>mul_int q hc.ok
theorem sv:OpR X (binaryOp .FloorDiv) (rI CDiv λi j =>.int (i/j)):=opI λi j _ _ _ _ _ hc q=>by
 have h1:(0:Int)<j:=hc.1
 have h2:j<1073741824:=hc.2
 exact floordiv_int (by lia) (by rw[AO i (by lia)];exact q) (.inl (PyProof.noPylong_small (by lia)))
theorem dN:OpR X (binaryOp .Mod) (rI (λ_ j=>0<j) λi j =>.int (i%j)):=opI λi j _ _ _ _ _ hc q=>by
 have h1:(0:Int)<j:=hc
 exact mod_int' (by lia) (by rw[AQ i (by lia)];exact q)
theorem mP:OpR X (binaryOp .Pow) (rI CPow λi j =>.int (i ^ j.toNat)):=opI λ_ _ _ _ _ _ _ hc q=>pow_int_small hc.1 hc.2.1 hc.2.2 q
theorem unI {f:wm->Sem wm}{g:Int->Int}
  (rule:∀(i:Int) (t:Tok) (s:wu) (Q:wm->wu->Prop) (E:wm->wu->Prop),Q (.int (g i) s.toks) { s with toks:=s.toks+1 }->wX (xk X.prog X.w) X.A (f (.int i t)) Q E s) :
  UnR X f (rU λi =>.int (g i)):=by
 intro pins s σ H x v Q I rx h
 obtain ⟨i,rfl,q⟩:=h
 obtain ⟨t,rfl⟩:=rx
 exact rule i t s _ _ ⟨.int (g i),H,I.tok _,⟨_,rfl⟩,q⟩
theorem gN:UnR X (unaryOp .USub) (rU λi =>.int (-i)):=unI λ_ _ _ _ _ q=>neg_int q
end
def vH:V->V->Bool
 | .non,.non=>true | .non,.int _=>true | .int _,.non=>true | .non,.bl _=>true | .bl _,.non=>true | .non,.str _=>true | .str _,.non=>true
 | .int _,.int _=>true | .bl _,.bl _=>true | .str _,.str _=>true | .byt _,.byt _=>true
 | .int _,.str _=>true | .str _,.int _=>true | .bl _,.str _=>true | .str _,.bl _=>true
 | _,_=>false
def rEq:R2:=λx y H Q=>vH x y=true/\Q (.bl (decide (x=y))) H
def rNe:R2:=λx y H Q=>vH x y=true/\Q (.bl (!decide (x=y))) H
theorem n5 {i j:Int}:decide (V.int i=V.int j)=(i == j):=by
 rw[ze]
 simp
theorem qD {i j:Bool}:decide (V.bl i=V.bl j)=(i == j):=by
 rw[ze]
 simp
theorem n6 {i j:Str}:decide (V.str i=V.str j)=(i == j):=by
 rw[ze]
 simp
theorem n8 {i j:Array UInt8}:decide (V.byt i=V.byt j)=(i.toList == j.toList):=by
 rw[ze]
 cases i
 cases j
 simp
section
variable  {X:Cx}{a b c:Expr}{ta tb tc:TE}{pos:Pos}
theorem aY {pins:List (Addr×Obj)}{σ:St}{H:Hp}{s:wu}{Q:VK}{k k':Bool}(I:Inv X pins σ H s)(q:Q (.bl k) H)(e:k=k'):EP X pins σ Q (.bool k') s:=by
 subst e
 exact ⟨.bl k,H,I,rfl,q⟩
theorem bo:OpR X (xY .Eq) rEq:=by
 intro pins s σ H x y v u Q I rx ry h
 obtain ⟨hs,q⟩:=h
 cases x with
 | non =>
  cases rx
  cases y with
  | non=>cases ry;exact PySem.EqNone.eq_none_none (aY I q (by simp))
  | bl j=>cases ry;exact PySem.EqNone.eq_none_bool (aY I q (by simp))
  | int j=>obtain ⟨t',rfl⟩:=ry;exact PySem.EqNone.eq_none_int (aY I q (by simp))
  | str j=>obtain ⟨t',rfl⟩:=ry;exact PySem.EqNone.eq_none_str (aY I q (by simp))
  | _=>exact absurd (show false=true from hs) wG
 | bl i =>
  cases rx
  cases y with
  | non=>cases ry;exact PySem.EqNone.eq_bool_none (aY I q (by simp))
  | bl j=>cases ry;exact eq_bool (aY I q qD)
  | str j=>obtain ⟨t',rfl⟩:=ry;exact Dq (aY I q (by simp))
  | _=>exact absurd (show false=true from hs) wG
 | int i =>
  obtain ⟨t,rfl⟩:=rx
  cases y with
  | non=>cases ry;exact PySem.EqNone.eq_int_none (aY I q (by simp))
  | int j=>obtain ⟨t',rfl⟩:=ry;exact eq_int (aY I q n5)
  | str j=>obtain ⟨t',rfl⟩:=ry;exact Dv (aY I q (by simp))
  | _=>exact absurd (show false=true from hs) wG
 | str i =>
  obtain ⟨t,rfl⟩:=rx
  cases y with
  | non=>cases ry;exact PySem.EqNone.eq_str_none (aY I q (by simp))
  | bl j=>cases ry;exact Dr (aY I q (by simp))
  | int j=>obtain ⟨t',rfl⟩:=ry;exact Dw (aY I q (by simp))
  | str j=>obtain ⟨t',rfl⟩:=ry;exact eq_str (aY I q n6)
  | _=>exact absurd (show false=true from hs) wG
 | byt i =>
  obtain ⟨t,rfl⟩:=rx
  cases y with
  | byt j=>obtain ⟨t',rfl⟩:=ry;exact PySem.W.eq_bytes (aY I q n8)
  | _=>exact absurd (show false=true from hs) wG
 | _=>cases y <;> exact absurd (show false=true from hs) wG
theorem qE:OpR X (xY .NotEq) rNe:=by
 intro pins s σ H x y v u Q I rx ry h
 obtain ⟨hs,q⟩:=h
 cases x with
 | non =>
  cases rx
  cases y with
  | non=>cases ry;exact PySem.EqNone.ne_none_none (aY I q (by simp))
  | bl j=>cases ry;exact PySem.EqNone.ne_none_bool (aY I q (by simp))
  | int j=>obtain ⟨t',rfl⟩:=ry;exact PySem.EqNone.ne_none_int (aY I q (by simp))
  | str j=>obtain ⟨t',rfl⟩:=ry;exact PySem.EqNone.ne_none_str (aY I q (by simp))
  | _=>exact absurd (show false=true from hs) wG
 | bl i =>
  cases rx
  cases y with
  | non=>cases ry;exact PySem.EqNone.ne_bool_none (aY I q (by simp))
  | bl j=>cases ry;exact ne_bool (aY I q (congrArg not qD))
  | str j=>obtain ⟨t',rfl⟩:=ry;exact Ds (aY I q (by simp))
  | _=>exact absurd (show false=true from hs) wG
 | int i =>
  obtain ⟨t,rfl⟩:=rx
  cases y with
  | non=>cases ry;exact PySem.EqNone.ne_int_none (aY I q (by simp))
  | int j=>obtain ⟨t',rfl⟩:=ry;exact ne_int (aY I q (congrArg not n5))
  | str j=>obtain ⟨t',rfl⟩:=ry;exact Dx (aY I q (by simp))
  | _=>exact absurd (show false=true from hs) wG
 | str i =>
  obtain ⟨t,rfl⟩:=rx
  cases y with
  | non=>cases ry;exact PySem.EqNone.ne_str_none (aY I q (by simp))
  | bl j=>cases ry;exact Dt (aY I q (by simp))
  | int j=>obtain ⟨t',rfl⟩:=ry;exact Dy (aY I q (by simp))
  | str j=>obtain ⟨t',rfl⟩:=ry;exact ne_str (aY I q (congrArg not n6))
  | _=>exact absurd (show false=true from hs) wG
 | byt i =>
  obtain ⟨t,rfl⟩:=rx
  cases y with
  | byt j=>obtain ⟨t',rfl⟩:=ry;exact PySem.W.ne_bytes (aY I q (congrArg not n8))
  | _=>exact absurd (show false=true from hs) wG
 | _=>cases y <;> exact absurd (show false=true from hs) wG
theorem eF:OpR X (xY .Lt) (rI0 λi j =>.bl (decide (i<j))):=su λ_ _ _ _ _ _ _ q=>lt_int q
theorem vI:OpR X (xY .LtE) (rI0 λi j =>.bl (decide (i<=j))):=su λ_ _ _ _ _ _ _ q=>le_int q
theorem iS:OpR X (xY .Gt) (rI0 λi j =>.bl (decide (j<i))):=su λ_ _ _ _ _ _ _ q=>gt_int q
theorem oe:OpR X (xY .GtE) (rI0 λi j =>.bl (decide (j<=i))):=su λ_ _ _ _ _ _ _ q=>ge_int q
theorem mQ:OpR X (xY .Is) (λx y H Q=>y = .non/\Q (.bl (decide (x = .non))) H):=by
 intro pins s σ H x y v u Q I rx ry h
 obtain ⟨rfl,q⟩:=h
 cases ry
 refine is_none_gen (aY I q ?_)
 cases x <;> first
  | (cases rx;rfl)
  | (obtain ⟨t,rfl⟩:=rx;rfl)
theorem ax (b:Expr){op:CmpOp}(h:op ≠ .In:=by decide)(h2:op ≠ .NotIn:=by decide):behindInMarks op b=false:=by
 have e1:(op == CmpOp.In)=false:=by cases op <;> first | rfl | exact absurd rfl h
 have e2:(op == CmpOp.NotIn)=false:=by cases op <;> first | rfl | exact absurd rfl h2
 cases b <;> simp[behindInMarks,e1,e2]
theorem bT {op:CmpOp}{r:R2}(ho:OpR X (xY op) r)(ha:PE X a ta)(hb:PE X b tb)(hm:behindInMarks op b=false):PE X (.Compare a [op] [b] pos) (tOp r ta tb):=by
 intro pins s σ H Q I h
 exact wpAny_Compare1 (uD ha hb I h λv u s2 x y H2 I2 rx ry q=>ho pins s2 σ H2 x y v u Q I2 rx ry q) hm
def vJ (t:TE):TT:=λσ H Q=>t σ H λx H'=>∃k,x = .bl k/\Q k H'
theorem aj {op:CmpOp}{r:R2}(ho:OpR X (xY op) r)(ha:PE X a ta)(hb:PE X b tb)(hm:behindInMarks op b=false):PT X (.Compare a [op] [b] pos) (vJ (tOp r ta tb)):=by
 intro pins s σ H Q I h
 refine B3 (thn (ha pins s σ H _ I h) λv s1 ⟨x,H1,I1,r1,q1⟩=>thn (hb pins s1 σ H1 _ I1 q1) λu s2 ⟨y,H2,I2,r2,q2⟩ =>
  thn (ho pins s2 σ H2 x y v u _ I2 r1 r2 q2) λc s3 ⟨z,H3,I3,r3,k,e,q3⟩ =>?_) hm
 subst e
 cases r3
 exact yh ⟨H3,I3,q3⟩
def uF (r r':R2)(ta tb tc:TE):TE:=λσ H Q=>ta σ H λx H1=>tb σ H1 λy H2=>r x y H2 λz H3=>∃k,z = .bl k ∧
 (if k=true then tc σ H3 λw' H4=>r' y w' H4 Q else Q (.bl false) H3)
theorem qF {op op':CmpOp}{r r':R2}(ho:OpR X (xY op) r)(ho':OpR X (xY op') r')(ha:PE X a ta)(hb:PE X b tb)(hc:PE X c tc)
  (hm:lastMarks [op,op'] [b,c]=false:=by with_unfolding_all rfl):PE X (.Compare a [op,op'] [b,c] pos) (uF r r' ta tb tc):=by
 intro pins s σ H Q I h
 refine Compare_chain (thn (ha pins s σ H _ I h) λv s1 ⟨x,H1,I1,r1,q1⟩=>chain_link (thn (hb pins s1 σ H1 _ I1 q1) λu s2 ⟨y,H2,I2,r2,q2⟩ =>
  thn (ho pins s2 σ H2 x y v u _ I2 r1 r2 q2) λd s3 ⟨z,H3,I3,r3,k,e,q3⟩ =>?_)) hm
 subst e
 cases r3
 refine yh ?_
 cases k with
 | false=>exact ite_ff ⟨.bl false,H3,I3,rfl,q3⟩
 | true=>exact ite_tt (chain_last (thn (hc pins s3 σ H3 _ I3 q3) λw' s4 ⟨z',H4,I4,r4,q4⟩=>ho' pins s4 σ H4 y z' u w' Q I4 r2 r4 q4))
theorem iT:(wo:Nat)<2 ^ 63:=by rw[Dm];decide
theorem vals1 {x:V}{us:List wm}(r:Vals [x] us):∃u,us=[u]/\RelV x u:=by
 cases r with
 | cons r1 r2=>cases r2;exact ⟨_,rfl,r1⟩
theorem vals2 {x y:V}{us:List wm}(r:Vals [x,y] us):∃u w',us=[u,w']/\RelV x u/\RelV y w':=by
 cases r with
 | cons r1 r2 =>
  cases r2 with
  | cons r3 r4=>cases r4;exact ⟨_,_,rfl,r1,r3⟩
theorem fv (hc:X.calm=true):bL X (.builtin "max") (λxs H Q=>∃i j,xs=[.int i,.int j]/\Q (.int (if j>i then j else i)) H):=by
 intro pins s σ H xs us Q I r h
 obtain ⟨i,j,rfl,q⟩:=h
 obtain ⟨u,w',rfl,⟨t,rfl⟩,⟨t',rfl⟩⟩:=vals2 r
 refine max_two_ints (I.ok.hd hc) λh' tk k=>⟨_,H,I.kept k,?_,q⟩
 by_cases hj:j>i
 ·rw[if_pos hj,if_pos hj];exact ⟨_,rfl⟩
 ·rw[if_neg hj,if_neg hj];exact ⟨_,rfl⟩
theorem cS (hc:X.calm=true):bL X (.builtin "min") (λxs H Q=>∃i j,xs=[.int i,.int j]/\Q (.int (if j<i then j else i)) H):=by
 intro pins s σ H xs us Q I r h
 obtain ⟨i,j,rfl,q⟩:=h
 obtain ⟨u,w',rfl,⟨t,rfl⟩,⟨t',rfl⟩⟩:=vals2 r
 refine min_two_ints (I.ok.hd hc) λh' tk k=>⟨_,H,I.kept k,?_,q⟩
 by_cases hj:j<i
 ·rw[if_pos hj,if_pos hj];exact ⟨_,rfl⟩
 ·rw[if_neg hj,if_neg hj];exact ⟨_,rfl⟩
theorem pq:bL X (.type "int") (λxs H Q=>(∃i,xs=[.int i]/\Q (.int i) H)\/∃k,xs=[.bl k]/\Q (.int (if k then 1 else 0)) H):=by
 intro pins s σ H xs us Q I r h
 rcases h with ⟨i,rfl,q⟩ | ⟨k,rfl,q⟩
 ·obtain ⟨u,rfl,t,rfl⟩:=vals1 r
  exact call_int_int ⟨.int i,H,I,⟨_,rfl⟩,q⟩
 ·obtain ⟨u,rfl,r1⟩:=vals1 r
  cases r1
  exact call_int_bool ⟨.int (if k then 1 else 0),H,I.tok _,⟨_,rfl⟩,q⟩
end
open PySem PySem.Spec PyProof.Rows
structure uG (h:Heap)(x dx C:Addr)(mA:Str->Option wm):Prop where
 obj:h.get? x=some (PySem.W.instObj C dx)
 ns:h.Ns1 dx mA
 ne:dx≠x
theorem pz {h:Heap}{dx:Addr}{mA:Str->Option wm}(n:h.Ns1 dx mA):∃od,h.get? dx=some od/\∀name,PySem.W.lookIn name od=some (mA name):=by
 obtain ⟨o,es,ep,ho,hd,hk,_,hm⟩:=n
 refine ⟨o,ho,λname =>?_⟩
 have e:=hm name
 unfold nsFind findBy at e
 rw[<- Array.find?_toList] at e
 unfold PySem.W.lookIn
 rw[hd]
 dsimp only
 split
 ·rename_i y q
  rw[q] at e
  exact congrArg some e
 ·rename_i q
  rw[q] at e
  have a:es.toList.any (·.refKey)=false:=by
   rw[List.any_eq_false]
   intro y hy
   obtain ⟨z,t,hkey⟩:=hk y (xq.mp hy)
   simp[DictEntry.refKey,hkey]
  have a':¬ es.toList.any (·.refKey)=true:=by rw[a];exact wG
  rw[if_neg a']
  exact congrArg some e
theorem uG.look {h:Heap}{x dx C:Addr}{mA:Str->Option wm}(I:uG h x dx C mA):∃od,PySem.W.InstAt h x (PySem.W.instObj C dx) C (some od)/\∀name,PySem.W.lookIn name od=some (mA name) :=
 let ⟨od,ho,hl⟩:=pz I.ns
 ⟨od,⟨I.obj,rfl,rfl,ho⟩,hl⟩
section
variable  {prog:wL}{w:xg}{A:xF}{E:wm->wu->Prop}{s:wu}{K:wc}{x dx C f:Addr}{mA:Str->Option wm}{name:Str}{v:wm}
end
section
variable  {P:wL}{w:xg}{H H':Hp}{h h':Heap}{a C dx:Addr}{fs fs':List (Str×V)}
theorem sA (hok:HOk P w H h)(e:H a=some (.ins C dx fs)):∃mA,uG h a dx C mA/\(∀f,uv (fs.lookup f) (mA f))/\PySem.Within mA (fs.map (·.1))/\fs.length<=1000/\H dx=some (.own a):=by
 obtain ⟨d,z,ne,ob,mA,n,r,q⟩:=(show bG P w H h a (.ins C dx fs) from hok a _ e)
 exact ⟨mA,⟨ob,n,ne⟩,r,q,z,d⟩
end
structure Cls (K:wc)(C:Addr):Prop where
 pg:PySem.W.plainGet K C Str.empty=true
 hd:PySem.W.hasDictIn K C=true
 po:PySem.W.plainOver K C=true
 sa:PySem.W.findIn K (.ref C) "__setattr__" = some (some (.builtin "object.__setattr__"))
theorem Cls.get {K:wc}{C:Addr}(c:Cls K C)(f:Str):PySem.W.plainGet K C f=true:=c.pg
section
variable  {X:Cx}{pins:List (Addr×Obj)}{σ:St}{H:Hp}{s:wu}{a C dx:Addr}{fs:List (Str×V)}{f:Str}{v:V}{A:xF}{E:wm->wu->Prop}
end
section
variable  {X:Cx}{o e value:Expr}{f:Str}{pos pos' tpos:Pos}{ta tv:TE}
end
section
variable  {X:Cx}{pins:List (Addr×Obj)}{σ:St}{H:Hp}{s:wu}{A:xF}{E:wm->wu->Prop}{Q:wm->wu->Prop}{c:wm}{b:Bool}
inductive gO (K:wc)(H:Hp):V->wm->Prop where
 | non:gO K H .non (.type "NoneType")
 | bl (x:Bool):gO K H (.bl x) (.type "bool")
 | int (i:Int):gO K H (.int i) (.type "int")
 | str (x:Str):gO K H (.str x) (.type "str")
 | flt (x:UInt64):gO K H (.flt x) (.type "float")
 | lst {a:Addr} {xs:List V} (e:H a=some (.lst xs)):gO K H (.ref a) (.type "list")
 | frz {a:Addr} {o:Obj} {xs:List V} (e:H a=some (.frz o (.lst xs))):gO K H (.ref a) (.type "list")
 | tup {a:Addr} {xs:List V} (e:H a=some (.tup xs)):gO K H (.ref a) (.type "tuple")
 | dK {a:Addr} {kvs:List (Key×V)} (e:H a=some (.dK kvs)):gO K H (.ref a) (.type "dict")
 | dT {a:Addr} {kvs:List (List Key×V)} (e:H a=some (.dT kvs)):gO K H (.ref a) (.type "dict")
 | ins {a C dx:Addr} {fs:List (Str×V)} (e:H a=some (.ins C dx fs)) (cl:Cls K C) (ha:PySem.W.findIn K (.ref C) "__class__" = some (some (.builtin "object.__class__")))
   (hn:PySem.W.specialIn K (.builtin "object.__class__") "__get__" = some (some (.builtin "getset_descriptor.__get__"))) (htk:PySem.W.takesIn K (.builtin "object.__class__")=some true)
   (hm:PySem.W.mroIn K C (.type "object")=some true):gO K H (.ref a) (.ref C)
theorem pA {x:V}{u t:wm}(I:Inv X pins σ H s)(rx:RelV x u)(ty:gO X.K H x t)(e:PySem.W.kitOne X.K t c=some b)(h:∀tk,Q (.bool b) { s with toks:=tk }) :
  wX (xk X.prog X.w) A (call (.builtin "isinstance") [u,c]) Q E s:=by
 cases ty with
 | non=>cases (show u=yW from rx);exact yn PySem.W.kitx_none I.kIn True.intro e (λz=>nomatch z) h
 | bl y=>cases (show u=Value.bool y from rx);exact yn PySem.W.kitx_bool I.kIn True.intro e (λz=>nomatch z) h
 | int i=>obtain ⟨t,q⟩:=(show ∃t,u=xZ i t from rx);cases q;exact yn PySem.W.kitx_int I.kIn True.intro e (λz=>nomatch z) h
 | str y=>obtain ⟨t,q⟩:=(show ∃t,u=Value.str y t from rx);cases q;exact yn PySem.W.kitx_str I.kIn True.intro e (λz=>nomatch z) h
 | flt y=>obtain ⟨t,q⟩:=(show ∃t,u=Value.float y t from rx);cases q;exact yn PySem.W.kitx_float I.kIn True.intro e (λz=>nomatch z) h
 | @lst a xs ea =>
  cases (show u=wN a from rx)
  obtain ⟨_,_,n,_,h1⟩:=(show bG X.prog X.w H s.heap a (.lst xs) from I.hok a _ ea)
  exact yn CP I.kIn ⟨_,h1,rfl⟩ e (λz=>nomatch z) h
 | @frz a ob xs ea =>
  cases (show u=wN a from rx)
  obtain ⟨_,_,_,n,_,h1⟩:=(show bG X.prog X.w H s.heap a (.frz ob (.lst xs)) from I.hok a _ ea)
  exact yn CP I.kIn ⟨_,h1,rfl⟩ e (λz=>nomatch z) h
 | @tup a xs ea =>
  cases (show u=wN a from rx)
  obtain ⟨_,_,_,p⟩:=(show bG X.prog X.w H s.heap a (.tup xs) from I.hok a _ ea)
  obtain ⟨o,h1,h2,_⟩:=p
  exact yn PySem.W.kitx_tuple I.kIn ⟨o,h1,h2.1⟩ e (λz=>nomatch z) h
 | @dK a kvs ea =>
  cases (show u=wN a from rx)
  obtain ⟨_,_,vs,_,p⟩:=(show bG X.prog X.w H s.heap a (.dK kvs) from I.hok a _ ea)
  obtain ⟨o,es,ep,h1,h2,_⟩:=p
  exact yn CQ I.kIn ⟨o,h1,h2.1⟩ e (λz=>nomatch z) h
 | @dT a kvs ea =>
  cases (show u=wN a from rx)
  obtain ⟨_,_,xs,_,o,es,ep,h1,h2,_⟩:=(show bG X.prog X.w H s.heap a (.dT kvs) from I.hok a _ ea)
  exact yn CQ I.kIn ⟨o,h1,h2.1⟩ e (λz=>nomatch z) h
 | @ins a C dx fs ea cl ha hn htk hm =>
  cases (show u=wN a from rx)
  obtain ⟨mA,O,_⟩:=sA I.hok ea
  obtain ⟨od,J,_⟩:=O.look
  exact yn (PySem.W.kitx_own (cl.get _) cl.hd ha hn htk hm) I.kIn J e (λz=>nomatch z) h
end
open PySem PySem.Spec PyProof.Rows
structure cy (k:Nat)(A:xF):Prop where
 hd:A.handled=none
 dp:A.depth+3*k+5<recursionLimit
 un:A.units+16*k+200<cLine
theorem cy.mono {j k:Nat}{A:xF}(r:cy k A)(h:j<=k):cy j A:=⟨r.hd,by have:=r.dp;lia,by have:=r.un;lia⟩
theorem cy.deeper {k:Nat}{A:xF}(r:cy (k+1) A)(env:Env):cy k (A.deeper env) :=
 ⟨r.hd,by have:=r.dp;show A.depth+1+3*k+5<_;lia,by have:=r.un;show A.units+3+16*k+200<_;lia⟩
theorem cy.depth {k:Nat}{A:xF}(r:cy k A):A.depth<recursionLimit:=by have:=r.dp;lia
theorem cy.units {k:Nat}{A:xF}(r:cy k A):A.units+64<cLine:=by have:=r.un;lia
def tNil:TA:=λ_ H Q=>Q [] H
def vK (ta:TE)(tr:TA):TA:=λσ H Q=>ta σ H λx H1=>tr σ H1 λxs H2=>Q (x :: xs) H2
section
variable  {X:Cx}{e:Expr}{es:List Expr}{te:TE}{t:TA}{pos:Pos}
theorem af:PA X [] tNil:=λ_ _ _ _ H Q I h=>Calls.spliced_nil ⟨[],H,I,.nil,h⟩
theorem aa (ha:PE X e te)(hr:PA X es t)(hs:xO (e :: es) X.env=(false,eval e X.env) :: xO es X.env:=by rfl):PA X (e :: es) (vK te t):=by
 intro pos pins s σ H Q I h
 rw[hs]
 show wX _ _ (spliced ((false,eval e X.env) :: Bp pos (xO es X.env))) _ _ s
 refine Calls.spliced_cons (thn (ha pins s σ H _ I h) λu s1 ⟨x,H1,I1,r1,q1⟩ =>?_)
 exact thn (hr pos pins s1 σ H1 _ I1 q1) λus s2 ⟨xs,H2,I2,r2,q2⟩=>⟨x :: xs,H2,I2,.cons r1 r2,q2⟩
def tTup (t:TA):TE:=λσ H Q=>t σ H λxs H1=>xs.length<=wo/\∀p,H1 p=none->Q (.ref p) (upd H1 p (.tup xs))
def tLst (t:TA):TE:=λσ H Q=>t σ H λxs H1=>xs.length<=wo/\∀p,H1 p=none->Q (.ref p) (upd H1 p (.lst xs))
theorem aQ {x1}(h:PA X es t):PE X (.Tuple es x1 pos) (tTup t):=by
 intro pins s σ H Q I hq
 refine wpAny_Tuple_spliced (thn (h pos pins s σ H _ I hq) λus s1 ⟨xs,H1,I1,r,z,q⟩=>⟨by rw[<- r.length];exact z,?_⟩)
 have hf:H1 s1.heap.objs.size=none:=I1.hok.fresh (wq _)
 refine ⟨.ref s1.heap.objs.size,upd H1 s1.heap.objs.size (.tup xs),I1.laid (t':=s1.toks) (λb u e=>we _ e) (wq _) ?_,rfl,q _ hf⟩
 exact ⟨z,us,r,⟨_,wH _ rfl,⟨rfl,rfl⟩,_,rfl⟩⟩
theorem aI (h:PA X es t):PE X (.List es pos) (tLst t):=by
 intro pins s σ H Q I hq
 refine wpAny_List_spliced (thn (h pos pins s σ H _ I hq) λus s1 ⟨xs,H1,I1,r,z,q⟩=>⟨by rw[<- r.length];exact z,?_⟩)
 have hf:H1 s1.heap.objs.size=none:=I1.hok.fresh (wq _)
 refine ⟨.ref s1.heap.objs.size,upd H1 s1.heap.objs.size (.lst xs),I1.laid (t':=s1.toks) (λb u e=>we _ e) (wq _) ?_,rfl,q _ hf⟩
 exact ⟨z,us,0,r,wH _ rfl⟩
end
abbrev Sp:=List V->Hp->VK->XK->Prop
abbrev CXT:=List Env->Hp->wu->XK->wm->wu->Prop
structure sC (P:wL)(w:xg)(K:wc)(mg:Str->Option wm)(base:Heap)(A:xF)(outer:List Env)(s:wu)(H:Hp):Prop where
 frames:A.frames=some outer
 mod:Mod K mg base
 bs:∀b o,base.get? b=some o->s.heap.get? b=some o/\H b=none
 bsz:base.objs.size<=s.heap.objs.size
 funs:s.heap.FunFrames base outer
 frf:∀b∈frs outer,H b=none
 hok:HOk P w H s.heap
 bare:AllBare s.gens
def CE (outer:List Env)(P:wL)(w:xg)(H:Hp)(s:wu)(Q:VK)(u:wm)(s':wu):Prop :=
 ∃v H',s'.os=s.os/\AllBare s'.gens/\Un (frs outer) [] H H' s.heap s'.heap/\HOk P w H' s'.heap/\RelV v u/\Q v H'
def CR (CX:CXT)(outer:List Env)(P:wL)(w:xg)(H:Hp)(s:wu)(Q:VK)(E:XK)(r:Result)(s':wu):Prop :=
 match r with
 | .ok (.ret u)=>CE outer P w H s Q u s'
 | .ok _=>False
 | .error e=>CX outer H s E e s'
structure bF (P:wL)(w:xg)(K:wc)(mg:Str->Option wm)(base:Heap)(CX:CXT)(k:Nat)(f:Addr)(fd:xB)(ps:List Str)(sp:Sp):Prop where
 len:∀vs H Q E,sp vs H Q E->vs.length=ps.length
 run:∀(A:xF) (outer:List Env) (s:wu) (H:Hp) (args:Args) (us:List wm) (vs:List V) (Q:VK) (E:XK),cy k A->sC P w K mg base A outer s H->BindsTo s fd args (ps.zip us)->Vals vs us->sp vs H Q E →
  BB (xk P w) A (.call (.ref f) args) (CR CX outer P w H s Q E) s
section
variable  {X:Cx}{pins:List (Addr×Obj)}{σ:St}{H:Hp}{s s':wu}
theorem Inv.env0 (I:Inv X pins σ H s):sC X.prog X.w X.K X.mg X.base X.A X.stack s H :=
 ⟨I.ok.frames,I.ok.mod,I.bs,xx I.ok.bsz I.sz,I.stack,I.nW,I.hok,I.bare⟩
theorem Inv.after {Q:VK}{u:wm}(I:Inv X pins σ H s)(h:CE X.stack X.prog X.w H s Q u s'):EP X pins σ Q u s':=by
 obtain ⟨v,H',os,bare,un,hok,r,q⟩:=h
 obtain ⟨hh,g,d,t,os'⟩:=s'
 obtain rfl:os'=s.os:=os
 exact ⟨v,H',I.call (h':=hh) (g':=g) (d':=d) (t':=t) (ch:=[]) un hok bare (λb z=>absurd z (by simp)),r,q⟩
end
def t9 (sp:Sp)(dvs:List V)(E:XK)(t:TA):TE:=λσ H Q=>t σ H λvs H1=>sp (vs++dvs) H1 Q E
def Binds (K:wc)(fd:xB)(ps:List Str)(ds:List wm):Prop :=
 ∀(s:wu) (us:List wm),K.In s.heap->(us++ds).length=ps.length->BindsTo s fd ⟨us,[]⟩ (ps.zip (us++ds))
theorem Binds.all {K:wc}{fd:xB}{ps:List Str}(h:∀us:List wm,us.length=ps.length->bindArgs fd ⟨us,[]⟩=pure (ps.zip us)):Binds K fd ps []:=λs us _ hl=>by
 rw[xM] at hl ⊢
 exact .of_eq (h us hl)
def Passes (CX:CXT)(X:Cx)(E:XK):Prop:=∀(pins:List (Addr×Obj)) (σ:St) (H:Hp) (s:wu) (e:wm) (s':wu),Inv X pins σ H s->CX X.stack H s E e s'->X.xe e s'
section
variable  {X:Cx}{CX:CXT}{k:Nat}{f C:Addr}{fd:xB}{ps:List Str}{sp:Sp}{dvs:List V}{ds:List wm}{E:XK}{x m:Str}{p pos apos:Pos}{e o:Expr}{es:List Expr}{ta:TE}{t:TA}
theorem qG {pins:List (Addr×Obj)}{σ:St}{H:Hp}{s:wu}{Q:VK}{us:List wm}{vs:List V}(F:bF X.prog X.w X.K X.mg X.base CX k f fd ps sp)(hr:cy k X.A)(hb:Binds X.K fd ps ds)(hd:Vals dvs ds)(hx:Passes CX X E)
  (I:Inv X pins σ H s) (r:Vals vs us) (h:sp (vs++dvs) H Q E):wX (xk X.prog X.w) X.A (call (.ref f) us) (EP X pins σ Q) X.xe s:=by
 have r2:Vals (vs++dvs) (us++ds):=r.append hd
 have hl:(us++ds).length=ps.length:=by rw[<- r2.length];exact F.len _ _ _ _ h
 refine DC (z8 (F.run X.A X.stack s H ⟨us,[]⟩ (us++ds) (vs++dvs) Q E hr I.env0 (hb s us I.kIn hl) r2 h) λr s' hq =>?_)
 cases r with
 | error e=>exact hx pins σ H s e s' I hq
 | ok fl =>
  cases fl with
  | ret u=>exact I.after hq
  | next=>exact False.elim hq
  | brk=>exact False.elim hq
  | cont=>exact False.elim hq
theorem sD (F:bF X.prog X.w X.K X.mg X.base CX k f fd ps sp)(hr:cy k X.A)(hg:Gl X x)(hm:X.mg x=some (.ref f))(hk:PySem.W.keepIn X.K (.ref f)=true)(hb:Binds X.K fd ps ds)(hd:Vals dvs ds)(hx:Passes CX X E)
  (ha:PA X (e :: es) t) (hdb:(x == ("__debug__" : Str))=false:=by decide) (he:xO (e :: es) X.env=(false,eval e X.env) :: xO es X.env:=by rfl) (hpl:(Bp pos (xO es X.env)).any (·.1)=false:=by rfl) :
  PE X (.Call (.Name x p) (e :: es) [] pos) (t9 sp dvs E t):=by
 intro pins s σ H Q I h
 refine zE (nX I hg hm ?_ hdb)
 refine Cs (h₀:=X.base) I.ok.mod.kin hk (thn (ha pos pins s σ H _ I h) λus s1 ⟨vs,H1,I1,r,q⟩=>⟨I1.kIn,?_⟩) he hpl
 exact qG F hr hb hd hx I1 r q
end
section
variable  {X:Cx}{CX:CXT}{k:Nat}{f C:Addr}{fd:xB}{ps ks:List Str}{sp:Sp}{E:XK}{x m:Str}{p pos apos kpos:Pos}{e o:Expr}{es:List Expr}{kws:List Keyword}{te ta:TE}{t tk:TA}{nm:Option Str}
variable  {g:List wm->List wm->List wm}{gV:List V->List V->List V}
end
structure aO (N P:List Str)(sc:Scope):Prop where
 kind:sc.kind = .function
 co:sc.isCoroutine=false
 gen:sc.isGenerator=false
 nd:N.Nodup
 pre:N.take P.length=P
 par:∀x∈P,sc.names.lookup x=some .local\/sc.names.lookup x=some .cell
 nofree:∀y∈sc.names,y.2 ≠ .free
theorem jU {kindOf:Str->Option NameKind}{x:Str}:∀{binds:List (Str×wm)} {m:Str->Option wm},(∀v,(x,v)∉binds)->bindL kindOf binds m x=m x
 | [],_,_=>rfl
 | (n,v) :: r,m,h=>by
  unfold bindL
  rw[jU λw hw=>h w (xf _ hw)]
  split
  ·have:x≠n:=by rintro rfl;exact h v wY
   simp[this]
  ·rfl
theorem jV {kindOf:Str->Option NameKind}{x:Str}:∀{binds:List (Str×wm)} {m:Str->Option wm},(∀v,(x,v)∉binds)->bindC kindOf binds m x=m x
 | [],_,_=>rfl
 | (n,v) :: r,m,h=>by
  unfold bindC
  rw[jV λw hw=>h w (xf _ hw)]
  split
  ·rfl
  ·have:x≠n:=by rintro rfl;exact h v wY
   simp[this]
theorem jW {kindOf:Str->Option NameKind}{x:Str}{v:wm}:∀{P:List Str} {vs:List wm} {i:Nat} {m:Str->Option wm},P.Nodup->P[i]? = some x->vs[i]? = some v->kindOf x=some .local →
  bindL kindOf (P.zip vs) m x=some v
 | [],_,_,_,_,h,_,_=>by simp at h
 | _ :: _,[],_,_,_,_,h,_=>by simp at h
 | p :: P,w :: vs,0,m,nd,h1,h2,hk=>by
  simp at h1 h2;subst h1;subst h2
  show bindL kindOf ((p,w) :: P.zip vs) m p=_
  unfold bindL
  rw[jU λv hv=>(Ab.mp nd).1 (BM hv).1,if_pos hk]
  simp
 | p :: P,w :: vs,i+1,m,nd,h1,h2,hk=>by
  show bindL kindOf ((p,w) :: P.zip vs) m x=_
  unfold bindL
  exact jW (i:=i) (Ab.mp nd).2 (by simpa using h1) (by simpa using h2) hk
theorem jX {kindOf:Str->Option NameKind}{x:Str}{v:wm}:∀{P:List Str} {vs:List wm} {i:Nat} {m:Str->Option wm},P.Nodup->P[i]? = some x->vs[i]? = some v->kindOf x≠some .local →
  bindC kindOf (P.zip vs) m x=some v
 | [],_,_,_,_,h,_,_=>by simp at h
 | _ :: _,[],_,_,_,_,h,_=>by simp at h
 | p :: P,w :: vs,0,m,nd,h1,h2,hk=>by
  simp at h1 h2;subst h1;subst h2
  show bindC kindOf ((p,w) :: P.zip vs) m p=_
  unfold bindC
  rw[jV λv hv=>(Ab.mp nd).1 (BM hv).1,if_neg hk]
  simp
 | p :: P,w :: vs,i+1,m,nd,h1,h2,hk=>by
  show bindC kindOf ((p,w) :: P.zip vs) m x=_
  unfold bindC
  exact jX (i:=i) (Ab.mp nd).2 (by simpa using h1) (by simpa using h2) hk
def start (N:List Str)(vs:List V):St:=vs.map some++xA (N.length-vs.length) none
def pB (CX:CXT)(P:wL)(w:xg)(K:wc)(mg:Str->Option wm)(base:Heap)(N:List Str)(qual:Str)(scope:Scope)(f:Addr)(cd:wm)(A:xF)(outer:List Env)(s:wu)(H:Hp)(E:XK):Cx where
 prog:=P
 w:=w
 K:=K
 mg:=mg
 base:=base
 A:=A.deeper (envOfC qual scope s.heap.objs.size f cd)
 N:=N
 s₀:=s
 H₀:=H
 env:=envOfC qual scope s.heap.objs.size f cd
 outer:=outer
 stack:=envOfC qual scope s.heap.objs.size f cd :: outer
 ex:=[]
 calm:=true
 fn:=λ_=>true
 pn:=[]
 xe:=λe s'=>wX (xk P w) (A.deeper (envOfC qual scope s.heap.objs.size f cd)) (leaving (envOfC qual scope s.heap.objs.size f cd) e) (λ_ s''=>CX outer H s E e s'') (λe' s''=>CX outer H s E e' s'') s'
theorem lG {sc:Scope}{n:Nat}{x:Str}(h:sc.names.lookup x=some .cell):∃c,(cellsFrom n sc.names []).lookup x=some c:=by
 have q:=BE sc.names n [] (.inl h)
 exact Bj.mp q
theorem pC {CX:CXT}{P:wL}{w:xg}{K:wc}{mg:Str->Option wm}{base:Heap}{N ps:List Str}{qual:Str}{scope:Scope}{f:Addr}{cd:wm}{A:xF}{outer:List Env}{s s1:wu}{H:Hp}{E:XK}{us:List wm}{vs:List V}
  (S:aO N ps scope) (hd:A.handled=none) (e0:sC P w K mg base A outer s H) (hl:vs.length=ps.length) (r:Vals vs us)
  (x:InCallC s s.heap.objs.size (bindL (envOfC qual scope s.heap.objs.size f cd).kindOf (ps.zip us) λ_=>none) (cellsFrom (s.heap.objs.size+1) scope.names []) (bindC (envOfC qual scope s.heap.objs.size f cd).kindOf (ps.zip us) λ_=>none) s1) :
  Inv (pB CX P w K mg base N qual scope f cd A outer s H E) [] (start N vs) H s1:=by
 have hpl:ps.length<=N.length:=by have:=congrArg List.length S.pre;rw[xX] at this;lia
 obtain ⟨h1,tk,rfl,hk⟩:=x.done
 have noA:∀b:Addr,b∉(pB CX P w K mg base N qual scope f cd A outer s H E).ex:=λb z=>absurd (show b∈([]:List Addr) from z) (by simp)
 refine ⟨⟨e0.mod,S.kind,rfl,rfl,wq _,λy z c h1 h2 =>?_,λy hy =>?_,λy c _ h =>?_,λ_=>hd,Around.frames_deeper e0.frames,.inr ⟨rfl,rfl⟩,λb z=>absurd z (noA b),e0.bs,e0.bsz,λb _ _=>noA b,λb z=>absurd z (noA b),e0.funs,e0.frf⟩,
  rfl,e0.bare,Un.kept hk,⟨_,x.toInCall.ns,λi y v h1 h2 h3 =>?_⟩,λy c h=>⟨_,x.cell y c h⟩,e0.hok.fresh (wq _),λy c h =>?_,λp hp=>absurd (show p∈([]:List (Addr×Obj)) from hp) (by simp),e0.hok.kept hk,?_⟩
 ·exact name_of_addr x.apart (yX h1) (yX h2)
 ·have hy:scope.names.lookup y=some .cell\/scope.names.lookup y=some .free:=hy
  rcases hy with hy | hy
  ·exact lG hy
  ·exact absurd rfl (S.nofree _ (yX hy))
 ·exact Ar (x.above y c (yX h))
 ·have hi:i<vs.length:=by
   unfold start at h2
   by_cases hi:i<vs.length
   ·exact hi
   ·rw[yZ (by simpa using hi)] at h2
    rw[List.getElem?_replicate] at h2
    split at h2 <;> cases h2
  have ha:vs[i]? = some v:=by
   unfold start at h2
   rw[y9 (by simpa using hi),xh] at h2
   cases e:vs[i]? with
   | none=>rw[e] at h2;cases h2
   | some a=>rw[e] at h2;cases h2;rfl
  obtain ⟨u,hu,rv⟩:=r.get ha
  have hp:ps[i]? = some y:=by
   rw[<- S.pre,List.getElem?_take_of_lt (by lia)];exact h1
  have ndP:ps.Nodup:=by rw[<- S.pre];exact S.nd.sublist (xR _ _)
  refine ⟨u,rv,?_⟩
  rcases S.par y (wR hp) with k | k
  ·exact .inl ⟨k,jW ndP hp hu k⟩
  ·obtain ⟨c,e⟩:=lG (n:=s.heap.objs.size+1) k
   refine .inr ⟨.inl k,c,e,?_⟩
   have q:=x.cell y c e
   rw[jX ndP hp hu (by show scope.names.lookup y≠_;rw[k];decide)] at q
   exact q
 ·exact e0.hok.fresh (Ar (x.above y c (yX h)))
 ·unfold start
  show _=N.length
  rw[wj,wd,As]
  lia
theorem vL {CX:CXT}{P:wL}{w:xg}{K:wc}{mg:Str->Option wm}{base:Heap}{k:Nat}{f:Addr}{name qual:Str}{params:Arguments}{body:List Stmt}{scope:Scope}{dV kV doc pm cdv ct oc:wm}{an od:Option Addr}
  {osl:Array (Option wm)} {N ps:List Str} {sp:Sp} (lk:K.lookup f=some ⟨oc,od,.func (PySem.W.fnOf name qual params body scope dV kV doc pm an cdv ct),osl⟩) (hcd:PySem.W.codeIn K cdv qual=true) (S:aO N ps scope)
  (len:∀vs H Q E,sp vs H Q E->vs.length=ps.length)
  (hbody:∀(A:xF) (outer:List Env) (s:wu) (H:Hp) (vs:List V) (Q:VK) (E:XK),cy k (A.deeper (envOfC qual scope s.heap.objs.size f cdv))->sp vs H Q E →
   ∃t,PSs (pB CX P w K mg base N qual scope f cdv A outer s H E) body t/\t { nx:=λ_ H'=>Q .non H',rt:=Q } (start N vs) H) :
  bF P w K mg base CX (k+1) f (PySem.W.fnOf name qual params body scope dV kV doc pm an cdv ct) ps sp:=by
 refine ⟨len,λA outer s H args us vs Q E hr e0 hb r hsp =>?_⟩
 have hl:=len _ _ _ _ hsp
 have KX:K.In s.heap:=e0.mod.kin.keeps λb o e=>(e0.bs b o e).1
 have lim:s.heap.NoLimit:=e0.mod.nolimit.keeps λb o e=>(e0.bs b o e).1
 have hkind:∀y∈ps.zip us,scope.names.lookup y.1=some .local\/(scope.names.lookup y.1=some .cell/\((cellsFrom (s.heap.objs.size+1) scope.names []).lookup y.1).isSome=true):=λ⟨n,v⟩ hy=>by
  rcases S.par n (BM hy).1 with q | q
  ·exact .inl q
  ·exact .inr ⟨q,BE _ _ _ (.inl q)⟩
 refine codeAny_call_function hr.depth (KX _ _ lk) rfl S.co S.gen rfl (PySem.W.codeRec_of KX hcd) (hb _ _ _ _ ?_)
 refine wpAny_newFunctionEnv_cells S.kind hkind λenv he s1 x =>?_
 subst he
 refine ⟨lim.keeps x.toInCall.keep,codeAny_func ?_⟩
 obtain ⟨t,ht,hq⟩:=hbody A outer s H vs Q E (hr.deeper _) hsp
 have I:Inv (pB CX P w K mg base N qual scope f cdv A outer s H E) [] (start N vs) H s1:=pC S hr.hd e0 hl r x
 refine zi (ht [] s1 (start N vs) H _ I hq) (λfl s' hs =>?_) λe s' hs=>hs
 have fin:∀{σ':St} {H':Hp} {v:V} {u:wm},Inv (pB CX P w K mg base N qual scope f cdv A outer s H E) [] σ' H' s'->RelV v u->Q v H'->CE outer P w H s Q u s' :=
  λ{σ' H' v u} J rv q=>⟨v,H',J.os,J.bare,J.base,J.hok,rv,q⟩
 cases fl with
 | ret u =>
  obtain ⟨v,σ',H',J,rv,q⟩:=hs
  exact fin J rv q
 | next =>
  obtain ⟨σ',H',J,q⟩:=hs
  exact fin (v:=V.non) (u:=yW) J rfl q
 | brk =>
  obtain ⟨_,_,_,q⟩:=hs
  exact False.elim q
 | cont =>
  obtain ⟨_,_,_,q⟩:=hs
  exact False.elim q
open PySem PySem.Spec PyProof.Rows
section
variable  {X:Cx}{x:Str}{p pos:Pos}{e:Expr}{es:List Expr}{t:TA}{id T:String}{r:List V->Hp->VK->Prop}
def tCB (r:List V->Hp->VK->Prop)(t:TA):TE:=λσ H Q=>t σ H λvs H1=>r vs H1 Q
theorem ao (hc:bL X (.builtin id) r)(hg:Gl X x)(hm:X.mg x=none)(hv:xJ x=some (.builtin id))(ha:PA X (e :: es) t)(hn:x ≠ "__name__" := by decide)(hdb:(x == ("__debug__" : Str))=false:=by decide)
  (he:xO (e :: es) X.env=(false,eval e X.env) :: xO es X.env:=by rfl) (hpl:(Bp pos (xO es X.env)).any (·.1)=false:=by rfl):PE X (.Call (.Name x p) (e :: es) [] pos) (tCB r t):=by
 intro pins s σ H Q I h
 refine zE (fO I hg hm hv ?_ hn hdb)
 exact PyProof.Rows.callWith_builtin1 (thn (ha pos pins s σ H _ I h) λus s1 ⟨vs,H1,I1,r1,q1⟩=>hc pins s1 σ H1 vs us Q I1 r1 q1) he hpl
theorem bb (hc:bL X (.type T) r)(hg:Gl X x)(hm:X.mg x=none)(hv:xJ x=some (.type T))(ha:PA X (e :: es) t)(hn:x ≠ "__name__" := by decide)(hdb:(x == ("__debug__" : Str))=false:=by decide)
  (he:xO (e :: es) X.env=(false,eval e X.env) :: xO es X.env:=by rfl) (hpl:(Bp pos (xO es X.env)).any (·.1)=false:=by rfl):PE X (.Call (.Name x p) (e :: es) [] pos) (tCB r t):=by
 intro pins s σ H Q I h
 refine zE (fO I hg hm hv ?_ hn hdb)
 exact yw (thn (ha pos pins s σ H _ I h) λus s1 ⟨vs,H1,I1,r1,q1⟩=>hc pins s1 σ H1 vs us Q I1 r1 q1) he hpl
end
end L2
namespace HT
open PySem PyProof.Rows
def lexLt:List Int->List Int->Bool
 | [],[]=>false
 | [],_ :: _=>true
 | _ :: _,[]=>false
 | x :: xs,y :: ys=>if x=y then lexLt xs ys else decide (x<y)
theorem dO (x y:Int)(xs ys:List Int):lexLt (x :: xs) (y :: ys)=if x=y then lexLt xs ys else decide (x<y):=rfl
theorem lH (A:xF)(s:wu)(a:Int)(t:Tok)(c:Int)(u:Tok)(prog:wL)(w:xg)(E:wm->wu->Prop)(Q:wm->wu->Prop)(h:Q (.bool (decide (a<c))) s) :
  wX (xk prog w) A (richCompare .Lt (.int a t) (.int c u)) Q E s :=
 (PyProof.Rows.lt_int h:wX (xk prog w) A (xY .Lt (.int a t) (.int c u)) Q E s)
section
open PySem.SeqAt
open PySem.AutoSeq1 (wpAny_loadPart')
open PySem.MeetsSeq PySem.MeetsSeq2 PySem.MeetsSeq3
end
section
variable  {prog:wL}{w:xg}{A:xF}{E:wm->wu->Prop}{s:wu}
theorem sE {t b:Addr}{vs ws:List wm}{Q:wm->wu->Prop}(ht:IsTup s.heap t vs.toArray)(hb:IsTup s.heap b ws.toArray)(hv:vs≠[])
  (h1:ws=[]->Q (.ref t) s) (h2:ws≠[]->Q (.ref s.heap.objs.size) { s with heap:=s.heap.push { cls :=.type "tuple",data :=.seq (vs++ws).toArray } })
  (hsz:vs.length+ws.length<=wo):wX (xk prog w) A (binaryOp .Add (.ref t) (.ref b)) Q E s:=by
 obtain ⟨⟨cls,dd,data,sl⟩,ho,hc,n,hd⟩:=id ht
 obtain ⟨⟨cls2,dd2,data2,sl2⟩,ho2,hc2,n2,hd2⟩:=id hb
 simp only at hc hd hc2 hd2
 subst hc hd hc2 hd2
 have e:vs.toArray++ws.toArray=(vs++ws).toArray:=by simp
 by_cases hw:ws=[]
 ·exact B4 ⟨_,ho,rfl⟩ ⟨_,ho2,rfl⟩ BD CJ Am Ac (zZ _ _)
   (tuple_addW1 t b vs.toArray ws.toArray n n2 dd dd2 sl sl2 (by simpa using hv) (by simp[hw])) ⟨ho,ho2,h1 hw⟩
 ·refine B4 ⟨_,ho,rfl⟩ ⟨_,ho2,rfl⟩ BD CJ Am Ac (zZ _ _)
   (tuple_addW2 t b vs.toArray ws.toArray n n2 dd dd2 sl sl2 (by simpa using hv) (by simpa using hw) (by rw[wk,wk];exact hsz)) ⟨ho,ho2,?_⟩
  rw[e]
  exact h2 hw
def sIx (n d:Nat):Option Int->Nat
 | none=>d
 | some v=>if v<0 then (v+(n:Int)).toNat else min v.toNat n
theorem uH (n d:Nat)(hd:d<=n)(o:Option Int):sIx n d o<=n:=by
 cases o with
 | none=>exact hd
 | some v =>
  show (if v<0 then (v+(n:Int)).toNat else min v.toNat n)<=n
  by_cases hv:v<0
  ·rw[if_pos hv];lia
  ·rw[if_neg hv];exact Nat.min_le_right _ _
theorem og (v:Int)(n d:Nat):(if v<0 then max (v+(n:Int)) 0 else min v (n:Int))=((sIx n d (some v):Nat):Int):=by
 show (if v<0 then max (v+(n:Int)) 0 else min v (n:Int))=(((if v<0 then (v+(n:Int)).toNat else min v.toNat n):Nat):Int)
 by_cases hv:v<0
 ·simp only[if_pos hv];lia
 ·simp only[if_neg hv];lia
theorem mR (lo hi:Option Int)(n:Nat):Builtin.Slice.sliceAdjust lo hi 1 (n:Int)=(((sIx n 0 lo:Nat):Int),((sIx n n hi:Nat):Int)):=by
 have h1:¬ ((1:Int)<0):=by lia
 unfold Builtin.Slice.sliceAdjust
 simp only[h1,if_false]
 refine DF ?_ ?_
 ·cases lo with
  | none=>rfl
  | some v=>exact og v n 0
 ·cases hi with
  | none=>rfl
  | some v=>exact og v n n
theorem mS (i j:Nat):Builtin.Slice.slicePlaces (i:Int) (j:Int) 1=j-i:=by
 unfold Builtin.Slice.slicePlaces
 have h1:(1:Int)>0:=by lia
 simp only[h1,if_true,Int.ediv_one]
 split <;> lia
theorem iU {v:wm}{o:Option Int}{Q:Option Int->wu->Prop}(p:IsPart v o)(h:Q o s):wX (xk prog w) A (Builtin.Slice.slicePartIndex v) Q E s:=by
 cases p with
 | none=>exact Bf h
 | int i t=>exact slicePart_int h
theorem dG {sl:Addr}{vl vu:wm}{lo hi:Option Int}{n:Nat}{Q:Int×Int×Nat->wu->Prop}(hs:s.heap.IsSliceOf sl vl vu .none)(pl:IsPart vl lo)(pu:IsPart vu hi)
  (h:Q (((sIx n 0 lo:Nat):Int),1,sIx n n hi-sIx n 0 lo) s):wX (xk prog w) A (Builtin.Slice.sliceApplied (.ref sl) (pure (n:Int))) Q E s:=by
 obtain ⟨os,hos,hcs,hds⟩:=id hs
 unfold Builtin.Slice.sliceApplied Builtin.Slice.sliceFields
 refine wg (wg (zc hos hds (x:=vl) rfl (wg (zc hos hds (x:=vu) rfl (wg (zc hos hds (x :=.none) rfl (wA ?_)))))))
 refine wg (Bf ?_)
 show wX _ _ (if ((1:Int) == 0)=true then _ else _) _ _ s
 rw[if_neg (by decide)]
 refine wg (iU pl (wg (iU pu (wg (wA ?_)))))
 show wX _ _ (match Builtin.Slice.sliceAdjust lo hi 1 (n:Int) with | (lo,hi)=>pure (lo,(1:Int),Builtin.Slice.slicePlaces lo hi 1)) _ _ s
 rw[mR lo hi n]
 show wX _ _ (pure (((sIx n 0 lo:Nat):Int),(1:Int),Builtin.Slice.slicePlaces ((sIx n 0 lo:Nat):Int) ((sIx n n hi:Nat):Int) 1)) _ _ s
 rw[mS]
 exact wA h
theorem qH (xs:Array wm)(i k:Nat):((xE k).filterMap λ(m:Nat)=>xs[((i:Int)+(m:Int)*1).toNat]?).toArray=((xs.toList.drop i).take k).toArray:=by
 have e:(λ(m:Nat)=>xs[((i:Int)+(m:Int)*1).toNat]?)=λm=>xs[i+m]? := by
  funext m
  have:((i:Int)+(m:Int)*1).toNat=i+m:=by lia
  rw[this]
 rw[e]
 have:=pick_run xs i k
 rw[List.filterMap_map] at this
 have e2:((λx=>xs[x]?) ∘ λx=>i+x)=λm=>xs[i+m]? := rfl
 rw[e2] at this
 rw[this]
theorem gk {t sl:Addr}{items:Array wm}{vl vu:wm}{lo hi:Option Int}{Q:wm->wu->Prop}(ht:IsTup s.heap t items)(hs:s.heap.IsSliceOf sl vl vu .none)(pl:IsPart vl lo)(pu:IsPart vu hi)
  (hw:¬ (sIx items.size 0 lo=0/\sIx items.size items.size hi=items.size))
  (h:Q (.ref s.heap.objs.size) { s with heap:=s.heap.push { cls :=.type "tuple",data :=.seq ((items.toList.drop (sIx items.size 0 lo)).take (sIx items.size items.size hi-sIx items.size 0 lo)).toArray } })
  (hsz:items.size<=wo):wX (xk prog w) A (getItem (.ref t) (.ref sl)) Q E s:=by
 have htake:sizeOk (.seq ((items.toList.drop (sIx items.size 0 lo)).take (sIx items.size items.size hi-sIx items.size 0 lo)).toArray):=by
  show ((items.toList.drop (sIx items.size 0 lo)).take (sIx items.size items.size hi-sIx items.size 0 lo)).toArray.size<=wo
  rw[wk,xX,yp,wy]
  omega
 have hj:sIx items.size items.size hi<=items.size:=uH _ _ (wq _) hi
 obtain ⟨os,hos,hcs,hds⟩:=id hs
 have hTs:s.TypeIs (.ref sl) "slice" :=⟨os,hos,hcs⟩
 unfold getItem
 try with_reducible refine yi ?_
 first | refine wg (wA ?_) | skip
 refine wg (Bo ht.typeIs (by decide) ?_)
 refine wg (yC (name:=Str.ofString "__getitem__") ht.typeIs xu
  (yt xu ht.typeIs entry_tuple_getitem ?_ (A4 _ _)))
 show wX _ _ (Builtin.Tuple.tupleItemsOf (.ref t) >>= _) _ _ s
 refine wg (CK ht ?_)
 refine wg (z9 hTs ?_)
 rw[if_pos (by decide)]
 refine wg (dG hs pl pu ?_)
 have hno:¬ ((((sIx items.size 0 lo:Nat):Int) == 0 && (1:Int) == 1 && (sIx items.size items.size hi-sIx items.size 0 lo) == items.size)=true):=by
  intro q
  rw[xQ,xQ] at q
  have q1:((sIx items.size 0 lo:Nat):Int)=0:=eq_of_beq q.1.1
  have q2:sIx items.size items.size hi-sIx items.size 0 lo=items.size:=eq_of_beq q.2
  exact hw ⟨by omega,by omega⟩
 show wX _ _ (if (((sIx items.size 0 lo:Nat):Int) == 0 && (1:Int) == 1 && (sIx items.size items.size hi-sIx items.size 0 lo) == items.size)=true then _ else _) _ _ s
 rw[if_neg hno,qH]
 first
  | exact wg (m:=Builtin.Tuple.tupleExact _) (xG (wA ⟨_,rfl,wA h⟩) htake)
  | exact wg (m:=Builtin.Tuple.tupleExact _) (xG (wg (wA (wA ⟨_,rfl,wA h⟩))) htake)
  | exact wg (wg (m:=Builtin.Tuple.tupleExact _) (xG (wA (wA ⟨_,rfl,wA h⟩)) htake))
  | exact wg (wg (m:=Builtin.Tuple.tupleExact _) (xG (wA ⟨_,rfl,wA h⟩) htake))
end
end HT
namespace L2
open PySem PySem.Spec PyProof.Rows
abbrev TO:=St->Hp->(Option Int->Hp->Prop)->Prop
def PO (X:Cx)(e:Option Expr)(t:TO):Prop :=
 ∀(pins:List (Addr×Obj)) (s:wu) (σ:St) (H:Hp) (Q:Option Int->Hp->Prop),Inv X pins σ H s->t σ H Q →
  wX (xk X.prog X.w) X.A (evalPart e X.env) (λu s'=>∃o H',Inv X pins σ H' s'/\IsPart u o/\Q o H') X.xe s
def sF:TO:=λ_ H Q=>Q none H
def vM (t:TE):TO:=λσ H Q=>t σ H λx H1=>∃i,x = .int i/\Q (some i) H1
theorem intsAre_of {ns:List Int}:∀{us:List wm},Vals (ns.map V.int) us->Aj us ns:=by
 induction ns with
 | nil=>intro us r;rw[DJ] at r;cases r;exact .nil
 | cons n ns ih =>
  intro us r
  rw[xv] at r
  cases r with
  | cons r1 r2 =>
   obtain ⟨t,e⟩:=r1
   subst e
   exact .cons n t (ih r2)
section
variable  {X:Cx}{e:Expr}{te:TE}{lo hi:Option Expr}{tl th:TO}{pos p2:Pos}
theorem bU:PO X none sF:=by
 intro pins s σ H Q I h
 rw[CL]
 exact wA ⟨none,H,I,.none,h⟩
theorem bV (h:PE X e te):PO X (some e) (vM te):=by
 intro pins s σ H Q I hw
 rw[evalPart_some]
 refine thn (h pins s σ H _ I hw) λu s1 ⟨x,H1,I1,r1,q1⟩ =>?_
 obtain ⟨i,rfl,q⟩:=q1
 obtain ⟨t,rfl⟩:=r1
 exact ⟨some i,H1,I1,.int i t,q⟩
def SlR (X:Cx)(r:V->Option Int->Option Int->Hp->VK->Prop):Prop :=
 ∀(pins:List (Addr×Obj)) (s:wu) (σ:St) (H:Hp) (x:V) (v vl vu:wm) (lo hi:Option Int) (sl:Addr) (Q:VK),Inv X pins σ H s->RelV x v->s.heap.IsSliceOf sl vl vu .none->IsPart vl lo->IsPart vu hi->r x lo hi H Q →
  ∃T id,typeLookup (.type T) "__getitem__" = pure (some (.builtin id))/\s.TypeIs v T/\wX (xk X.prog X.w) X.A (getItem v (.ref sl)) (EP X pins σ Q) X.xe s
def tSl (r:V->Option Int->Option Int->Hp->VK->Prop)(te:TE)(tl th:TO):TE:=λσ H Q=>te σ H λx H1=>tl σ H1 λl H2=>th σ H2 λu H3=>r x l u H3 Q
theorem bB {r:V->Option Int->Option Int->Hp->VK->Prop}(hr:SlR X r)(he:PE X e te)(hl:PO X lo tl)(hu:PO X hi th):PE X (.Subscript e (.Slice lo hi none p2) pos) (tSl r te tl th):=by
 intro pins s σ H Q I h
 refine Subscript_ (thn (he pins s σ H _ I h) λv s1 ⟨x,H1,I1,r1,q1⟩ =>?_)
 refine wpAny_Slice (thn (hl pins s1 σ H1 _ I1 q1) λvl s2 ⟨l,H2,I2,pl,q2⟩=>thn (hu pins s2 σ H2 _ I2 q2) λvu s3 ⟨u,H3,I3,pu,q3⟩ =>?_)
 rw[CL]
 refine wA ?_
 have I4:Inv X pins σ H3 { s3 with heap:=s3.heap.push { cls :=.type "slice",data :=.fields #[vl,vu,.none] } }:=I3.kept (t':=s3.toks) λb ob q=>we _ q
 obtain ⟨T,id,hT,ht,hg⟩:=hr pins { s3 with heap:=s3.heap.push { cls :=.type "slice",data :=.fields #[vl,vu,.none] } } σ H3 x v vl vu l u s3.heap.objs.size Q I4 r1 (Ct ..) pl pu q3
 show wX (xk X.prog X.w) X.A (subscriptTail e (.Slice lo hi none p2) v (.ref s3.heap.objs.size)) (EP X pins σ Q) X.xe { s3 with heap:=s3.heap.push { cls :=.type "slice",data :=.fields #[vl,vu,.none] } }
 exact tail_any (ops:=[.ref s3.heap.objs.size,v]) ht hT hg (by with_unfolding_all rfl)
def bM (xs:List V)(lo hi:Option Int):List V:=(xs.drop (HT.sIx xs.length 0 lo)).take (HT.sIx xs.length xs.length hi-HT.sIx xs.length 0 lo)
theorem ia (xs:List V)(lo hi:Option Int):(bM xs lo hi).length<=xs.length:=by
 unfold bM
 rw[xX,yp]
 lia
def rSlT (K:wc):V->Option Int->Option Int->Hp->VK->Prop:=λx lo hi H Q=>∃a xs,x = .ref a/\SqT K H a xs ∧
 ¬ (HT.sIx xs.length 0 lo=0/\HT.sIx xs.length xs.length hi=xs.length)/\∀p,H p=none->Q (.ref p) (upd H p (.tup (bM xs lo hi)))
theorem uI:SlR X (rSlT X.K):=by
 intro pins s σ H x v vl vu lo hi sl Q I rx hs pl pu h
 obtain ⟨a,xs,rfl,hx,hw,q⟩:=h
 cases rx
 obtain ⟨its,r,ht,hz⟩:=I.tuple hx
 have hlen:its.toArray.size=xs.length:=by rw[wk];exact r.length.symm
 refine ⟨"tuple",_,xu.lookup,ht.typeIs,?_⟩
 refine HT.gk ht hs pl pu (by rw[hlen];exact hw) ?_ (by rw[hlen];exact hz)
 rw[hlen]
 refine ⟨.ref s.heap.objs.size,_,I.laid (t':=s.toks) (o :=.tup (bM xs lo hi)) (λb ob q=>we _ q) (wq _) ?_,rfl,q _ (I.hok.fresh (wq _))⟩
 exact ⟨xx (ia xs lo hi) hz,_,(r.drop (HT.sIx xs.length 0 lo)).take (HT.sIx xs.length xs.length hi-HT.sIx xs.length 0 lo),cV.new _ _⟩
def vN (K:wc):R2:=λx y H Q=>∃a b xs ys,x = .ref a/\y = .ref b/\SqT K H a xs/\SqT K H b ys/\xs≠[]/\xs.length+ys.length<=wo ∧
 (ys=[]->Q (.ref a) H)/\(ys≠[]->∀p,H p=none->Q (.ref p) (upd H p (.tup (xs++ys))))
theorem Vals.iB {xs:List V}{us:List wm}(r:Vals xs us):us=[]↔xs=[]:=by
 cases r with
 | nil=>simp
 | cons _ _=>simp
theorem sH:OpR X (binaryOp .Add) (vN X.K):=by
 intro pins s σ H x y v u Q I rx ry h
 obtain ⟨a,b,xs,ys,rfl,rfl,ha,hb,hx,hz,q1,q2⟩:=h
 cases rx
 cases ry
 obtain ⟨its,r1,p1,_⟩:=I.tuple ha
 obtain ⟨its2,r2,p2,_⟩:=I.tuple hb
 refine HT.sE p1 p2 (λz=>hx (r1.iB.mp z)) (λz=>⟨.ref a,H,I,rfl,q1 (r2.iB.mp z)⟩) (λz =>?_) (by rw[<- r1.length, <- r2.length];exact hz)
 refine ⟨.ref s.heap.objs.size,_,I.laid (t':=s.toks) (o :=.tup (xs++ys)) (λb ob q=>we _ q) (wq _) ?_,rfl,q2 (λw=>z (r2.iB.mpr w)) _ (I.hok.fresh (wq _))⟩
 exact ⟨by rw[wj];exact hz,_,r1.append r2,cV.new _ _⟩
end
open PySem PySem.Spec PyProof.Rows
def ixN (n:Nat)(i:Int):Option Nat:=if 0<=i then (if i<n then some i.toNat else none) else if -(n:Int)<=i then some (i+n).toNat else none
def atI {α:Type}(xs:List α)(i:Int):Option α:=(ixN xs.length i).bind λj=>xs[j]?
theorem oh {n:Nat}{i:Int}{j:Nat}(h:ixN n i=some j):seqIndex? i n=some j/\j<n /\ -(n:Int)<=i/\i<n:=by
 unfold ixN at h
 by_cases h0:0<=i
 ·rw[if_pos h0] at h
  by_cases h1:i<n
  ·rw[if_pos h1] at h
   have e:i.toNat=j:=xt h
   exact ⟨by rw[Dn h0 h1,e],by lia,by lia,h1⟩
  ·rw[if_neg h1] at h;cases h
 ·rw[if_neg h0] at h
  by_cases h1 : -(n:Int)<=i
  ·rw[if_pos h1] at h
   have e:(i+n).toNat=j:=xt h
   exact ⟨by rw[C6 (by lia) h1,e],by lia,h1,by lia⟩
  ·rw[if_neg h1] at h;cases h
theorem oi {α:Type}{xs:List α}{i:Int}{v:α}(h:atI xs i=some v):∃j,seqIndex? i xs.length=some j/\xs[j]? = some v/\j<xs.length /\ -(xs.length:Int)<=i/\i<xs.length:=by
 unfold atI at h
 cases e:ixN xs.length i with
 | none=>rw[e] at h;cases h
 | some j =>
  rw[e] at h
  obtain ⟨h1,h2,h3,h4⟩:=oh e
  exact ⟨j,h1,h,h2,h3,h4⟩
theorem fw {α:Type}{xs:List α}{j:Nat}{v:α}(h:xs[j]? = some v):atI xs (j:Int)=some v:=by
 have hj:j<xs.length:=(wF.mp h).1
 have e:ixN xs.length (j:Int)=some j:=by
  unfold ixN
  rw[if_pos (by lia),if_pos (by lia)];simp
 unfold atI;rw[e];exact h
def sI (b:Expr):Prop:=∀o i,subscripted b false o i=operate [o,i] (getItem o i)
def IxR (X:Cx)(r:R2):Prop :=
 ∀(value slice:Expr) (pins:List (Addr×Obj)) (s:wu) (σ:St) (H:Hp) (x y:V) (v u:wm) (Q:VK),Inv X pins σ H s->RelV x v->RelV y u->r x y H Q →
  subscripted slice false v u=operate [v,u] (getItem v u)->wX (xk X.prog X.w) X.A (subscriptTail value slice v u) (EP X pins σ Q) X.xe s
def MtR (X:Cx)(id:String)(r:V->List V->Hp->VK->Prop):Prop :=
 ∀(pins:List (Addr×Obj)) (s:wu) (σ:St) (H:Hp) (x:V) (xs:List V) (v:wm) (us:List wm) (Q:VK),Inv X pins σ H s->RelV x v->Vals xs us->r x xs H Q →
  wX (xk X.prog X.w) X.A (call (.builtin id) (v :: us)) (EP X pins σ Q) X.xe s
section
variable  {X:Cx}{a b:Expr}{ta tb:TE}{pos:Pos}
theorem ay {r:R2}(hr:IxR X r)(ha:PE X a ta)(hb:PE X b tb)(hs:sI b):PE X (.Subscript a b pos) (tOp r ta tb):=by
 intro pins s σ H Q I h
 exact Subscript_ (uD ha hb I h λv u s2 x y H2 I2 rx ry q=>hr a b pins s2 σ H2 x y v u Q I2 rx ry q (hs _ _))
def vO (K:wc):R2:=λx y H Q=>∃p xs i v,x = .ref p/\y = .int i/\SqL K H p xs/\atI xs i=some v/\Q v H
def vP (K:wc):R2:=λx y H Q=>∃p xs i v,x = .ref p/\y = .int i/\SqT K H p xs/\atI xs i=some v/\Q v H
theorem bC:IxR X (vO X.K):=by
 intro value slice pins s σ H x y v u Q I rx ry h hs
 obtain ⟨p,xs,i,z,rfl,rfl,hq,he,q⟩:=h
 cases rx
 obtain ⟨t,rfl⟩:=ry
 obtain ⟨its,r,pl,hz⟩:=I.list hq
 obtain ⟨j,h1,h2,h3,h4,h5⟩:=oi he
 obtain ⟨w,ew,rw'⟩:=r.get h2
 have hl:=r.length
 have hn:=iT
 have fin:EP X pins σ Q w s:=⟨z,H,I,rw',q⟩
 by_cases h0:0<=i
 ·have hj:i.toNat=j:=by
   rw[Dn h0 h5] at h1
   exact xt h1
  exact item_listR pl.isList h0 (by lia) (by rw[hj];simpa using ew) fin hs
 ·have hj:(i+(its.toArray.size:Int)).toNat=j:=by
   rw[C6 (by lia) h4] at h1
   rw[wk, <- hl]
   exact xt h1
  exact BJ (x:=w) pl.isList.typeIs slot_list_getitem.lookup
   (wpAny_getItem_list_neg (Q:=λr s'=>r=w/\EP X pins σ Q r s') pl.isList (by lia) (by rw[wk] <;> lia) (by lia) (by rw[hj];simpa using ew) ⟨rfl,fin⟩) hs
theorem av:IxR X (vP X.K):=by
 intro value slice pins s σ H x y v u Q I rx ry h hs
 obtain ⟨p,xs,i,z,rfl,rfl,hq,he,q⟩:=h
 cases rx
 obtain ⟨t,rfl⟩:=ry
 obtain ⟨its,r,pl,hz⟩:=I.tuple hq
 obtain ⟨j,h1,h2,h3,h4,h5⟩:=oi he
 obtain ⟨w,ew,rw'⟩:=r.get h2
 have hl:=r.length
 have hn:=iT
 have fin:EP X pins σ Q w s:=⟨z,H,I,rw',q⟩
 exact BJ (x:=w) pl.typeIs slot_tuple_getitem.lookup
  (getItem_tuple (j:=j) (Q:=λr s'=>r=w/\EP X pins σ Q r s') pl (by lia) (by lia) (by rw[wk, <- hl];exact h1) (by simpa using ew) ⟨rfl,fin⟩) hs
theorem mT (its:List wm)(n j:Nat)(u:wm):Aa (·.setIfInBounds j u) { cls :=.type "list",data :=.seq its.toArray n }={ cls :=.type "list",data :=.seq (its.set j u).toArray n }:=by
 simp[Aa]
theorem Inv.lst {pins:List (Addr×Obj)}{σ:St}{H:Hp}{s:wu}{p:Addr}{xs:List V}(I:Inv X pins σ H s)(h:H p=some (.lst xs)) :
  ∃(its:List wm) (n:Nat),Vals xs its/\s.heap.get? p=some { cls :=.type "list",data :=.seq its.toArray n }/\xs.length<=wo:=by
 obtain ⟨z,its,n,r,e⟩:=I.hok p _ h
 exact ⟨its,n,r,e,z⟩
theorem Inv.uJ {pins:List (Addr×Obj)}{σ:St}{H:Hp}{s:wu}{p:Addr}{xs ys:List V}{its its':List wm}{n n':Nat}{f:Obj->Obj}(I:Inv X pins σ H s)(h:H p=some (.lst xs))
  (ho:s.heap.get? p=some { cls :=.type "list",data :=.seq its.toArray n }) (hf:f { cls :=.type "list",data :=.seq its.toArray n }={ cls :=.type "list",data :=.seq its'.toArray n' }) (r:Vals ys its') (hz:ys.length<=wo) (t:Nat) :
  Inv X pins σ (upd H p (.lst ys)) { s with heap:=s.heap.update p f,toks:=t }:=by
 have e:(s.heap.update p f).get? p=some { cls :=.type "list",data :=.seq its'.toArray n' }:=by
  rw[y8 f ho (by rw[hf] <;> rfl),hf]
 refine I.write (x:=p) (e:=p) (by rw[h];trivial) (.inl rfl) (λb u hb q=>(yk _ _ (zF hb)).trans q) ⟨_,e⟩ ?_
 exact ⟨hz,its',n',r,e⟩
def vQ:V->V->V->Hp->(Hp->Prop)->Prop:=λo i v H Q=>∃p xs k j,o = .ref p/\i = .int k/\H p=some (.lst xs)/\ixN xs.length k=some j/\Q (upd H p (.lst (xs.set j v)))
theorem set_list:uA X vQ:=by
 intro pins s σ H o i v ov iv u Q I ro ri rv h
 obtain ⟨p,xs,k,j,rfl,rfl,hp,hj,q⟩:=h
 cases ro
 obtain ⟨t,rfl⟩:=ri
 obtain ⟨its,n,r,ho,hz⟩:=I.lst hp
 obtain ⟨h1,h2,h3,h4⟩:=oh hj
 have hl:=r.length
 have hn:=iT
 have I':Inv X pins σ (upd H p (.lst (xs.set j v))) { s with heap:=s.heap.update p (Aa (·.setIfInBounds j u)) } :=
  I.uJ hp ho (mT its n j u) (r.set rv j) (by rw[AG];exact hz) s.toks
 by_cases h0:0<=k
 ·have hk:k.toNat=j:=by
   rw[Dn h0 h4] at h1
   exact xt h1
  exact PySem.W.ki_setAt ho h0 (by lia) (by rw[wk, <- hl];exact h4) (by rw[hk];exact ⟨_,I',q⟩)
 ·have hk:(k+(its.toArray.size:Int)).toNat=j:=by
   rw[C6 (by lia) h3] at h1
   rw[wk, <- hl]
   exact xt h1
  exact PySem.W.ki_setBack ho (by lia) (by rw[wk, <- hl];exact h3) (by lia) (by rw[hk];exact ⟨_,I',q⟩)
theorem kC (lo hi:Option Int)(n:Nat):(sliceBounds lo hi none n).1=((HT.sIx n 0 lo:Nat):Int)/\(sliceBounds lo hi none n).2.1=((HT.sIx n n hi:Nat):Int)/\(sliceBounds lo hi none n).2.2=1:=by
 refine ⟨?_,?_,rfl⟩
 ·cases lo with
  | none=>simp[sliceBounds,HT.sIx]
  | some i =>
   simp only[sliceBounds,HT.sIx,C8,show (1:Int)>0 by decide,if_true]
   by_cases h:i<0
   ·simp only[h,if_true] <;> lia
   ·simp only[h,if_false] <;> lia
 ·cases hi with
  | none=>simp[sliceBounds,HT.sIx]
  | some i =>
   simp only[sliceBounds,HT.sIx,C8,show (1:Int)>0 by decide,if_true]
   by_cases h:i<0
   ·simp only[h,if_true] <;> lia
   ·simp only[h,if_false] <;> lia
theorem jE (its:List wm)(lo hi:Option Int):slicePick its.toArray lo hi none=((its.drop (HT.sIx its.length 0 lo)).take (HT.sIx its.length its.length hi-HT.sIx its.length 0 lo)).toArray:=by
 obtain ⟨h1,h2,h3⟩:=kC lo hi its.toArray.size
 unfold slicePick
 rw[h1,h2,h3]
 simp only[sliceRange_one,pick_run,wk] <;> rfl
def rSlL (K:wc):V->Option Int->Option Int->Hp->VK->Prop:=λx lo hi H Q=>∃a xs,x = .ref a/\SqL K H a xs/\∀p,H p=none->Q (.ref p) (upd H p (.lst (bM xs lo hi)))
theorem cJ:SlR X (rSlL X.K):=by
 intro pins s σ H x v vl vu lo hi sl Q I rx hs pl pu h
 obtain ⟨a,xs,rfl,hx,q⟩:=h
 cases rx
 obtain ⟨its,r,ht,hz⟩:=I.list hx
 have hlen:=r.length
 refine ⟨"list",_,slot_list_getitem.lookup,ht.isList.typeIs,?_⟩
 refine wpAny_getItem_list_slice ht.isList hs pl pu .none (by simp) ?_ (by rw[wk] <;> lia)
 rw[jE, <- hlen]
 refine ⟨.ref s.heap.objs.size,_,I.laid (t':=s.toks) (o :=.lst (bM xs lo hi)) (λb ob q=>we _ q) (wq _) ?_,rfl,q _ (I.hok.fresh (wq _))⟩
 exact ⟨xx (ia xs lo hi) hz,_,0,(r.drop (HT.sIx xs.length 0 lo)).take (HT.sIx xs.length xs.length hi-HT.sIx xs.length 0 lo),wH _ rfl⟩
def gm:V->Bool
 | .non=>true
 | .bl _=>true
 | .int _=>true
 | .str _=>true
 | _=>false
def eqV:V->V->Bool
 | .non,.non=>true
 | .bl a,.bl b=>a == b
 | .bl a,.int b=>(if a then 1 else 0) == b
 | .int a,.bl b=>a == (if b then 1 else 0)
 | .int a,.int b=>a == b
 | .str a,.str b=>a == b
 | _,_=>false
theorem uK {A:xF}{s:wu}{y x:V}{u v:wm}(ry:RelV y u)(rx:RelV x v)(fy:gm y=true)(fx:gm x=true):zk A s u v (eqV y x):=by
 cases y with
 | non =>
  cases ry
  cases x with
  | non=>cases rx;exact zG _
  | bl b=>cases rx;exact SeqAt.EqAt.none_bool b
  | int b=>obtain ⟨t,rfl⟩:=rx;exact SeqAt.EqAt.none_int b t
  | str b=>obtain ⟨t,rfl⟩:=rx;exact SeqAt.EqAt.none_str b t
  | _=>exact absurd (show false=true from fx) wG
 | bl a =>
  cases ry
  cases x with
  | non=>cases rx;exact SeqAt.EqAt.bool_none a
  | bl b=>cases rx;exact SeqAt.EqAt.bool_bool a b
  | int b=>obtain ⟨t,rfl⟩:=rx;exact SeqAt.EqAt.bool_int a b t
  | str b=>obtain ⟨t,rfl⟩:=rx;exact SeqAt.EqAt.bool_str a b t
  | _=>exact absurd (show false=true from fx) wG
 | int a =>
  obtain ⟨t',rfl⟩:=ry
  cases x with
  | non=>cases rx;exact SeqAt.EqAt.int_none a t'
  | bl b=>cases rx;exact SeqAt.EqAt.int_bool a t' b
  | int b=>obtain ⟨t,rfl⟩:=rx;exact zC a t' b t
  | str b=>obtain ⟨t,rfl⟩:=rx;exact Cq a t' b t
  | _=>exact absurd (show false=true from fx) wG
 | str a =>
  obtain ⟨t',rfl⟩:=ry
  cases x with
  | non=>cases rx;exact SeqAt.EqAt.str_none a t'
  | bl b=>cases rx;exact SeqAt.EqAt.str_bool a t' b
  | int b=>obtain ⟨t,rfl⟩:=rx;exact Cr a t' b t
  | str b=>obtain ⟨t,rfl⟩:=rx;exact Cu a t' b t
  | _=>exact absurd (show false=true from fx) wG
 | _=>exact absurd (show false=true from fy) wG
def eqU (x:V)(u:wm):Bool:=match u with
 | .none=>eqV .non x
 | .bool b=>eqV (.bl b) x
 | .int i _=>eqV (.int i) x
 | .str z _=>eqV (.str z) x
 | _=>false
theorem qI {x y:V}{u:wm}(r:RelV y u)(f:gm y=true):eqU x u=eqV y x:=by
 cases y with
 | non=>cases r;rfl
 | bl b=>cases r;rfl
 | int i=>obtain ⟨t,rfl⟩:=r;rfl
 | str z=>obtain ⟨t,rfl⟩:=r;rfl
 | _=>exact absurd (show false=true from f) wG
theorem gn {x:V}:∀{xs:List V} {us:List wm},Vals xs us->xs.all gm=true->us.any (eqU x)=xs.any λy=>eqV y x
 | _,_,.nil,_=>rfl
 | y :: xs,u :: us,.cons r t,f=>by
  rw[DG,xQ] at f
  rw[Cv,Cv,qI r f.1,gn t f.2]
theorem eS {A:xF}{s:wu}{x:V}{v:wm}(rx:RelV x v)(fx:gm x=true):∀{xs:List V} {us:List wm},Vals xs us->xs.all gm=true->∀u∈us,zk A s u v (eqU x u)
 | _,_,.nil,_=>λu hu=>by cases hu
 | y :: xs,u :: us,.cons r t,f=>λu' hu=>by
  rw[DG,xQ] at f
  rcases wZ.mp hu with rfl | hu
  ·rw[qI r f.1];exact uK r rx f.1 fx
  ·exact eS rx fx t f.2 u' hu
def inV (x:V)(xs:List V):Bool:=xs.any λy=>eqV y x
def rIn (K:wc)(neg:Bool):R2:=λx y H Q=>∃p xs,y = .ref p/\(SqL K H p xs\/SqT K H p xs)/\gm x=true/\xs.all gm=true/\Q (.bl (if neg then !inV x xs else inV x xs)) H
theorem gP:OpR X (xY .In) (rIn X.K false):=by
 intro pins s σ H x y v u Q I rx ry h
 obtain ⟨p,xs,rfl,hq,fx,fs,q⟩:=h
 cases ry
 rcases hq with hq | hq
 ·obtain ⟨its,r,pl,hz⟩:=I.list hq
  refine SeqAt.in_listAt (eqU x) pl.isList (λw hw=>eS rx fx r fs w (by simpa using hw)) ⟨.bl _,H,I,rfl,?_⟩
  rw[show its.toArray.any (eqU x)=its.any (eqU x) by simp,gn r fs]
  exact q
 ·obtain ⟨its,r,pl,hz⟩:=I.tuple hq
  refine SeqAt.in_tupleAt (eqU x) pl (λw hw=>eS rx fx r fs w (by simpa using hw)) ⟨.bl _,H,I,rfl,?_⟩
  rw[show its.toArray.any (eqU x)=its.any (eqU x) by simp,gn r fs]
  exact q
theorem bX:OpR X (xY .NotIn) (rIn X.K true):=by
 intro pins s σ H x y v u Q I rx ry h
 obtain ⟨p,xs,rfl,hq,fx,fs,q⟩:=h
 cases ry
 rcases hq with hq | hq
 ·obtain ⟨its,r,pl,hz⟩:=I.list hq
  refine SeqAt.notIn_listAt (eqU x) pl.isList (λw hw=>eS rx fx r fs w (by simpa using hw)) ⟨.bl _,H,I,rfl,?_⟩
  rw[show its.toArray.any (eqU x)=its.any (eqU x) by simp,gn r fs]
  exact q
 ·obtain ⟨its,r,pl,hz⟩:=I.tuple hq
  refine SeqAt.notIn_tupleAt (eqU x) pl (λw hw=>eS rx fx r fs w (by simpa using hw)) ⟨.bl _,H,I,rfl,?_⟩
  rw[show its.toArray.any (eqU x)=its.any (eqU x) by simp,gn r fs]
  exact q
theorem aP:bL X (.builtin "len") (λxs H Q=>∃p ys,xs=[.ref p]/\(SqL X.K H p ys\/SqT X.K H p ys)/\Q (.int ys.length) H):=by
 intro pins s σ H xs us Q I r h
 obtain ⟨p,ys,rfl,hq,q⟩:=h
 obtain ⟨u,rfl,rx⟩:=vals1 r
 cases rx
 have hn:=iT
 rcases hq with hq | hq
 ·obtain ⟨its,r',pl,hz⟩:=I.list hq
  have hlen:=r'.length
  exact Calls.call_len_list pl.isList (by simp only[wk] <;> lia) ⟨.int ys.length,H,I.tok _,⟨s.toks+1,by rw[wk,hlen]⟩,q⟩
 ·obtain ⟨its,r',pl,hz⟩:=I.tuple hq
  have hlen:=r'.length
  exact len_tuple pl (by simp only[wk] <;> lia) ⟨.int ys.length,H,I.tok _,⟨s.toks+1,by rw[wk,hlen]⟩,q⟩
theorem cK:bL X (.type "list") (λxs H Q=>∃p ys,xs=[.ref p]/\(SqL X.K H p ys\/SqT X.K H p ys)/\∀l,H l=none->Q (.ref l) (upd H l (.lst ys))):=by
 intro pins s σ H xs us Q I r h
 obtain ⟨p,ys,rfl,hq,q⟩:=h
 obtain ⟨u,rfl,rx⟩:=vals1 r
 cases rx
 have fin:∀(its:List wm),Vals ys its->ys.length<=wo->∀(h':Heap) (c':Nat),(∀b o',s.heap.get? b=some o'->h'.get? b=some o') →
   h'.get? s.heap.objs.size=some { cls :=.type "list",dict:=none,data :=.seq its.toArray c',slots := #[] }->EP X pins σ Q (.ref s.heap.objs.size) { s with heap:=h' }:=λits r' hz h' c' kp e =>
  ⟨.ref s.heap.objs.size,_,I.laid (t':=s.toks) kp (wq _) (show bG X.prog X.w _ h' _ (.lst ys) from ⟨hz,its,c',r',e⟩),rfl,q _ (I.hok.fresh (wq _))⟩
 rcases hq with hq | hq
 ·obtain ⟨its,r',pl,hz⟩:=I.list hq
  have hlen:=r'.length
  obtain ⟨o,ho,hc,n,hd⟩:=pl.isList
  exact call_list_seq p (.inl rfl) ho hc hd (λh' c' kp e=>fin its r' hz h' c' kp e) (by simp only[wk] <;> lia)
 ·obtain ⟨its,r',pl,hz⟩:=I.tuple hq
  have hlen:=r'.length
  obtain ⟨o,ho,hc,n,hd⟩:=pl
  exact call_list_seq p (.inr rfl) ho hc hd (λh' c' kp e=>fin its r' hz h' c' kp e) (by simp only[wk] <;> lia)
theorem cj:bL X (.type "tuple") (λxs H Q=>∃p ys,xs=[.ref p]/\((SqL X.K H p ys/\∀l,H l=none->Q (.ref l) (upd H l (.tup ys)))\/(SqT X.K H p ys/\Q (.ref p) H))):=by
 intro pins s σ H xs us Q I r h
 obtain ⟨p,ys,rfl,h⟩:=h
 obtain ⟨u,rfl,rx⟩:=vals1 r
 cases rx
 rcases h with ⟨hq,q⟩ | ⟨hq,q⟩
 ·obtain ⟨its,r',pl,hz⟩:=I.list hq
  have hlen:=r'.length
  refine call_tuple_list pl.isList (λh' kp =>?_) (by simp only[wk] <;> lia)
  have I1:Inv X pins σ H { s with heap:=h' }:=I.kept (t':=s.toks) kp
  have I2:Inv X pins σ (upd H h'.objs.size (.tup ys)) { s with heap:=h'.push { cls :=.type "tuple",data :=.seq its.toArray } } :=
   I1.laid (t':=s.toks) (λb o e=>we _ e) (wq _) (show bG X.prog X.w _ _ _ (.tup ys) from ⟨hz,its,r',cV.new _ _⟩)
  exact ⟨.ref h'.objs.size,_,I2,rfl,q _ (I1.hok.fresh (wq _))⟩
 ·obtain ⟨its,r',pl,hz⟩:=I.tuple hq
  exact call_tuple_same pl ⟨.ref p,H,I,rfl,q⟩
def tyV (K:wc)(T:String)(x:V)(H:Hp):Prop:=match x with
 | .str _=>T = "str"
 | .int _=>T = "int"
 | .ref p=>(T = "list" /\ ∃xs,SqL K H p xs)\/(T = "tuple" /\ ∃o,K.lookup p=some o/\o.cls = .type "tuple" /\ o.dict=none) ∨
   (T = "dict" /\ ((∃kvs,H p=some (.dK kvs))\/∃kvs,H p=some (.dT kvs)))\/(T = "set" /\ ∃S n,H p=some (.set S n))
 | _=>False
theorem uL {pins:List (Addr×Obj)}{σ:St}{H:Hp}{s:wu}{T:String}{x:V}{v:wm}(I:Inv X pins σ H s)(r:RelV x v)(ty:tyV X.K T x H) :
  s.TypeIs v T/\∀a,v = .ref a->∃ob,s.heap.get? a=some ob/\ob.dict=none:=by
 cases x with
 | str z =>
  obtain ⟨t,rfl⟩:=r
  cases (show T = "str" from ty)
  exact ⟨typeIs_str s z t,λ_ e=>nomatch e⟩
 | int i =>
  obtain ⟨t,rfl⟩:=r
  cases (show T = "int" from ty)
  exact ⟨DD s i t,λ_ e=>nomatch e⟩
 | ref p =>
  cases r
  rcases ty with ⟨rfl,xs,hq⟩ | ⟨rfl,o,hk,hc,hd⟩ | ⟨rfl,hk⟩ | ⟨rfl,S,n,hk⟩
  ·obtain ⟨its,_,pl,_⟩:=I.list hq
   refine ⟨pl.isList.typeIs,λa e =>?_⟩
   cases e
   obtain ⟨o,n,e,c,hd,_⟩:=pl
   exact ⟨o,e,hd⟩
  ·refine ⟨⟨o,I.kIn p o hk,hc⟩,λa e =>?_⟩
   cases e
   exact ⟨o,I.kIn _ o hk,hd⟩
  ·have z:∃o,s.heap.get? p=some o/\o.ExactDict:=by
    rcases hk with ⟨kvs,hk⟩ | ⟨kvs,hk⟩
    ·obtain ⟨_,_,_,_,o,_,_,e,ex,_⟩:=I.hok p _ hk
     exact ⟨o,e,ex⟩
    ·obtain ⟨_,_,_,_,o,_,_,e,ex,_⟩:=I.hok p _ hk
     exact ⟨o,e,ex⟩
   obtain ⟨o,e,ex⟩:=z
   refine ⟨⟨o,e,ex.1⟩,λa e2 =>?_⟩
   cases e2
   exact ⟨o,e,ex.2.1⟩
  ·obtain ⟨o,_,_,_,e,ex,_⟩:=I.hok p _ hk
   refine ⟨⟨o,e,ex.1⟩,λa e2 =>?_⟩
   cases e2
   exact ⟨o,e,ex.2.1⟩
 | _=>exact False.elim ty
def tBM (K:wc)(T:String)(r:V->List V->Hp->VK->Prop)(to:TE)(t:TA):TE:=λσ H Q=>to σ H λx H1=>tyV K T x H1/\t σ H1 λxs H2=>r x xs H2 Q
variable  {o e:Expr}{es:List Expr}{to:TE}{t:TA}{name:Str}{apos cpos:Pos}{T id:String}{r:V->List V->Hp->VK->Prop}
theorem oj (pa:PlainAttrs T)(slot:Slot T name id)(hty:typeOf (.builtin id)=pure (.type "method_descriptor"))(hm:MtR X id r)(ho:PE X o to)(ha:PA X (e :: es) t)
  (hbase:attributeBase o name X.env (eval o X.env)=eval o X.env:=by rfl)
  (hfew:((Bp cpos (xO (e :: es) X.env)).all (λx => !x.1) && (backToKw cpos (keywordEach [] X.env)).all (λx=>x.1.isSome)
   && decide ((e :: es).length+([]:List Keyword).length+(if ([]:List Keyword).isEmpty then 0 else 1)<30))=true:=by rfl)
  (hline:(apos.endLine == cpos.line)=true:=by rfl) (hs:xO (e :: es) X.env=(false,eval e X.env) :: xO es X.env:=by rfl) (hplain:(Bp cpos (xO es X.env)).any (·.1)=false:=by rfl) :
  PE X (.Call (.Attribute o name apos) (e :: es) [] cpos) (tBM X.K T r to t):=by
 intro pins s σ H Q I h
 refine BK hbase hfew hline rfl (thn (ho pins s σ H _ I h) λv s1 ⟨x,H1,I1,r1,ty,q1⟩ =>?_)
 obtain ⟨h1,h2⟩:=uL I1 r1 ty
 refine ⟨T,id,pa,slot,hty,h1,h2,?_⟩
 have hA:=ha cpos pins s1 σ H1 _ I1 q1
 rw[hs] at hA ⊢
 refine BF (by show (false || (Bp cpos (xO es X.env)).any (·.1))=false;rw[hplain] <;> rfl) (Cb ?_)
 exact thn hA λus s2 ⟨vs,H2,I2,r2,q2⟩=>hm pins s2 σ H2 x vs v us Q I2 r1 r2 q2
end
open PySem PySem.Spec PyProof.Rows
def MtM (X:Cx)(id:String)(r:V->List V->Hp->VK->Prop):Prop :=
 ∀(pins:List (Addr×Obj)) (s:wu) (σ:St) (H:Hp) (x:V) (xs:List V) (v:wm) (us:List wm) (Q:VK),Inv X pins σ H s->RelV x v->Vals xs us->r x xs H Q →
  wX (xk X.prog X.w) X.A (call (.builtin id) (v :: us)) (EP X pins σ Q) X.xe s
theorem Vals.one:∀{x:V} {us:List wm},Vals [x] us->∃u,us=[u]/\RelV x u
 | _,_,.cons r .nil=>⟨_,rfl,r⟩
theorem Vals.reverse {xs:List V}{us:List wm}(h:Vals xs us):Vals xs.reverse us.reverse:=by
 induction h with
 | nil=>exact .nil
 | cons r t ih=>rw[CS,CS];exact Vals.append ih (.cons r .nil)
theorem Vals.rep {xs:List V}{us:List wm}(h:Vals xs us):∀k:Nat,Vals (xA k xs).flatten (xA k us).flatten
 | 0 =>.nil
 | k+1=>by
  rw[ye,ye,yu,yu]
  exact Vals.append h (Vals.rep h k)
theorem foldl_rep (its:List wm):∀(k:Nat) (acc:List wm),
  List.foldl (λx1 x2=>x1++x2) acc.toArray (xA k its.toArray)=(acc++(xA k its).flatten).toArray
 | 0,acc=>by simp
 | k+1,acc=>by
  have e:acc.toArray++its.toArray=(acc++its).toArray:=by simp
  have e2:(acc++its)++(xA k its).flatten=acc++(xA (k+1) its).flatten:=by
   rw[ye,yu,xc]
  rw[<- e2, <- foldl_rep its k (acc++its), <- e,ye,BN]
section
variable  {X:Cx}{pins:List (Addr×Obj)}{σ:St}{H:Hp}{s:wu}{l b:Addr}{xs ys zs:List V}
theorem Inv.lset {its its':List wm}{n:Nat}{f:Array wm->Array wm}{t':Nat}(I:Inv X pins σ H s)(hH:H l=some (.lst xs))
  (e:s.heap.get? l=some { cls :=.type "list",data :=.seq its.toArray n }) (hf:f its.toArray=its'.toArray) (hv:Vals ys its') (hz:ys.length<=wo) :
  Inv X pins σ (upd H l (.lst ys)) { s with heap:=s.heap.update l (Aa f),toks:=t' }:=by
 have q:=PySem.IsL.update e f
 rw[hf] at q
 refine I.write (x:=l) (e:=l) (by rw[hH];exact trivial) (.inl rfl) (λb' u hb hu=>(yk s.heap (Aa f) (zF hb)).trans hu) ⟨_,q⟩ ?_
 exact ⟨hz,its',_,hv,q⟩
theorem Inv.vR {its:List wm}{t':Nat}(I:Inv X pins σ H s)(hv:Vals ys its)(hz:ys.length<=wo) :
  Inv X pins σ (upd H s.heap.objs.size (.lst ys)) { s with heap:=s.heap.push { cls :=.type "list",data :=.seq its.toArray },toks:=t' } :=
 I.laid (λ_ _ q=>we _ q) (wq _) ⟨hz,its,0,hv,wH _ rfl⟩
theorem Inv.fresh (I:Inv X pins σ H s):H s.heap.objs.size=none:=I.hok.fresh (wq _)
theorem Inv.vS (I:Inv X pins σ H s)(hH:H l=some (.lst xs)):xs.length<=wo/\∃(its:List wm) (n:Nat),Vals xs its/\xs.length=its.length/\s.heap.get? l=some { cls :=.type "list",data :=.seq its.toArray n }:=by
 obtain ⟨z,its,n,r,e⟩:=I.hok l _ hH
 exact ⟨z,its,n,r,r.length,e⟩
theorem qJ {n:Nat}(h:n<=wo):Builtin.List.listTooLong n=false:=by
 unfold Builtin.List.listTooLong
 exact decide_eq_false (by lia)
end
section
variable  {X:Cx}
def sJ:V->List V->Hp->VK->Prop:=λx vs H Q=>∃l xs y,x = .ref l/\vs=[y]/\H l=some (.lst xs)/\xs.length<wo/\Q .non (upd H l (.lst (xs++[y])))
theorem fz:MtM X "list.append" sJ:=by
 intro pins s σ H x vs v us Q I rx rv h
 obtain ⟨l,xs,y,rfl,rfl,hH,hz,q⟩:=h
 cases rx
 obtain ⟨u,rfl,ru⟩:=rv.one
 obtain ⟨z,its,n,r,hl,e⟩:=I.vS hH
 refine C1 F.slot_list_append ⟨_,e,rfl⟩ F.entry_list_append (F.args_list_append_2 _ _) (PySem.list_append l its.toArray n u (by rw[wk];lia)) ⟨e,?_⟩
 refine ⟨.non,_,I.lset (its':=its++[u]) hH e (by simp) (r.append (.cons ru .nil)) ?_,rfl,q⟩
 rw[wj,xU]
 lia
def rRep:R2:=λx y H Q=>∃l k xs,x = .ref l/\y = .int k/\H l=some (.lst xs) /\ -(2 ^ 63)<=k/\k<2 ^ 63/\xs.length*k.toNat<=wo ∧
 ∀p,H p=none->Q (.ref p) (upd H p (.lst (xA k.toNat xs).flatten))
theorem len_rep {α:Type}(xs:List α)(k:Nat):(xA k xs).flatten.length=k*xs.length:=by
 induction k with
 | zero=>simp
 | succ k ih=>rw[ye,yu,wj,ih,Nat.succ_mul,Nat.add_comm]
theorem qK:OpR X (binaryOp .Mult) rRep:=by
 intro pins s σ H x y v u Q I rx ry h
 obtain ⟨l,k,xs,rfl,rfl,hH,h1,h2,hz,q⟩:=h
 cases rx
 obtain ⟨t,rfl⟩:=ry
 obtain ⟨z,its,n,r,hl,e⟩:=I.vS hH
 have hlen:its.toArray.size*k.toNat<=wo:=by rw[wk, <- hl];exact hz
 have hcap:¬ its.toArray.size*k.toNat>(2 ^ 63-1)/8:=by
  have:(wo:Nat)<=(2 ^ 63-1)/8:=by decide
  lia
 have hfit:¬ (!Builtin.List.listFitsIndex k)=true:=by
  rw[fitsIndex_both h1 h2]
  exact wG
 have hlong:¬ Builtin.List.listTooLong (its.toArray.size*k.toNat)=true:=by
  rw[qJ hlen]
  exact wG
 have hnew:List.foldl (λx1 x2=>x1++x2) #[] (xA (if its.toArray.isEmpty=true then 0 else k.toNat) its.toArray)=(xA k.toNat its).flatten.toArray:=by
  have f0:∀m:Nat,List.foldl (λx1 x2=>x1++x2) #[] (xA m its.toArray)=(xA m its).flatten.toArray:=λm=>by
   have:=foldl_rep its m []
   rw[Ad] at this
   exact this
  rw[f0]
  cases its with
  | nil=>simp
  | cons a r'=>rw[if_neg (by simp)]
 refine wpAny_binaryOp_repeat_ref (T := "list") (U := "int") (by decide) ⟨_,e,rfl⟩ (λs'=>DD s' k t) noFill_list_mul F.fills_int_mul Dj repeat_list F.slot_int_index.lookup
  (C1 Dj (DD s k t) F.entry_int_rmul (F.args_int_rmul_2 _ _) (int___rmul___int_list k t l its.toArray n)
   ⟨e,rfl,⟨_,e,rfl⟩,C1 F.slot_list_mul ⟨_,e,rfl⟩ F.entry_list_mul (F.args_list_mul_2 _ _) (AutoListH.list___mul___list_int_3 l its.toArray n k t hfit hcap hlong) ⟨e,?_⟩⟩)
 rw[hnew]
 exact ⟨.ref _,_,I.vR (t':=s.toks) (r.rep k.toNat) (by rw[len_rep,Nat.mul_comm];exact hz),rfl,q _ I.fresh⟩
end
section
variable  {prog:wL}{w:xg}{A:xF}{E:wm->wu->Prop}{s:wu}
end
section
variable  {X:Cx}
end
end L2
namespace Att
open PySem PySem.W PySem.Calls PyProof.Rows
theorem iy {P:Params}{h:Heap}:∀(ns:List Int) (vs:List wm),WellAll P h vs (ns.map WData.int)->Aj vs ns:=by
 intro ns
 induction ns with
 | nil =>
  intro vs w
  rw[DJ] at w
  cases w
  exact .nil
 | cons n ns ih =>
  intro vs w
  rw[xv] at w
  cases w with
  | cons a b =>
   cases a
   exact .cons _ _ (ih _ b)
theorem pD {l:OpenLaw}{n:Nat}(hn:l.most=some n){P:Params}{h:Heap}{args:List WData}{vals:List wm}
  (hpre:l.row.toRowW.claim.pre args=true) (hwl:WellAll P h vals args) :
  ∃a vs ns,vals=[wN a]/\args=[WData.list (ns.map WData.int)]/\h.get? a=some { cls :=.type "list",data :=.seq vs.toArray }/\Aj vs ns/\ns.length<=n:=by
 have hsh:WShape.hasAll [] args [.list .int]=true:=(pre_splitW hpre).1
 have hc:l.pre.holds [] { args:=args }=true:=(pre_splitW hpre).2
 obtain ⟨d,r,rfl,h1,h2⟩:=hasAllW_cons hsh
 obtain rfl:=hasAllW_nil h2
 obtain ⟨xs,rfl,h3⟩:=hasW_list h1
 obtain ⟨ns,rfl⟩:=items_int h3
 have hlen:ns.length<=n:=by
  unfold OpenLaw.pre at hc
  have h4:(WTm.not (.lt (.lit (.int (n:Int))) (.len (.arg 0)))).holds [] { args:=[.list (ns.map .int)] }=true:=by
   have h4:=(holds_andW hc).1
   rw[hn] at h4
   exact h4
  have h5:=condW_of h4 (w_not (w_lt w_lit (w_len_list (w_arg rfl))))
  rw[wd] at h5
  refine C9 λq =>?_
  have q':(n:Int)<((ns.length:Nat):Int):=by omega
  first
   | (rw[decide_eq_true q'] at h5;exact absurd h5 (by decide))
   | (simp at h5;omega)
 cases hwl with
 | cons w1 w2 =>
  cases w2
  cases w1 with
  | list ho hall=>exact ⟨_,_,ns,rfl,rfl,ho,iy ns _ hall,hlen⟩
theorem pE (l:OpenLaw)(args:List WData):l.row.toRowW.claim.post args (.bool true) args=true :=
 postW_of (r:=l.row.toRowW) (X:=(true == true))
  (show WShape.has [] (.bool true) .bool=true by first | rfl | decide | simp[WShape.has,WShape.arms,WShape.armsAll])
  (show (WTm.eq .res (.lit (.bool true))).value [] { args:=args,res:=some (.bool true),after:=args }=some (.bool (true == true)) from w_eq_bool (w_res rfl) w_lit) rfl
theorem lI {l:OpenLaw}{n:Nat}{q:wL}{loose:List Str}{XP:(Str->Option wm)->Heap->Prop}{YP:xg->Heap->Prop}{d:DefRec}
  (hn:l.most=some n) (hdf:d.params.defaults=[])
  (call:∀(w:xg) (s₀ s₁:wu) (mg mb:Str->Option wm) (fa:Addr) (o:Obj) (pm cd doc:wm) (a:Addr) (vs:List wm) (ns:List Int),
   Ground q loose [] XP w s₀ mg mb s₁.heap->YP w s₁.heap →
   s₁.heap.get? fa=some o->o.data = .func (docDef d.name d.params d.body d.scope pm cd doc)->s₁.heap.CodeRec cd d.name->mg d.name=some (.ref fa) →
   s₁.heap.get? a=some { cls :=.type "list",data :=.seq vs.toArray }->Aj vs ns->ns.length<=n->s₁.gens = #[] →
   BB (xk l.prog w) callerA (.call (.ref fa) ⟨[.ref a],[]⟩) (λr s'=>r = .ok (.ret (.bool true))/\OldK s₁.heap s'.heap/\s'.os=s₁.os/\AllBare s'.gens) s₁) :
  WalkO q loose XP YP l.row.toRowW d [] (λf vs=>PySem.call f vs):=by
 intro w s₀ s₁ mg mb G Y fa o pm cd doc dV kV ho hd hcd hD hmg hg args vals as hpre hlay hrd hwl hlo
 obtain rfl:dV = .none:=Dflts.none hD hdf
 obtain rfl:kV = .none:=Dflts.noKw hD
 obtain ⟨a,vs,ns,rfl,rfl,hobj,hints,hlen⟩:=pD hn hpre hwl
 refine enter_call (z8 (call w s₀ s₁ mg mb fa o pm cd doc a vs ns G Y ho (fd_plain hd) hcd hmg hobj hints hlen hg) λr s' hq =>?_)
 obtain ⟨rfl,h2,h3,h4⟩:=hq
 exact ⟨.inl ⟨.bool true,.bool true,[],rfl,λ_=>rfl,.bool true,pE l _,λ_=>⟨List.Pairwise.nil,λ_ hm=>(nomatch hm)⟩⟩,h2,h3,h4⟩
section
variable  {prog:wL}{w:xg}{A:xF}{E:wm->wu->Prop}{s:wu}{K:Frag}
def ledger (h:Heap)(L d:Addr):List (Addr×Obj):=(xE h.objs.size).filterMap λa=>if a=L\/a=d then none else (h.get? a).map λo=>(a,o)
end
end Att
namespace L2
open PySem PySem.Spec PyProof.Rows
theorem gQ:∀{vs:List wm} {ns:List Int},Aj vs ns->Vals (ns.map V.int) vs
 | _,_,.nil =>.nil
 | _,_,.cons n t h =>.cons ⟨t,rfl⟩ (gQ h)
def uM (H:Hp):Prop:=∀b,H b=none\/∃o xs,H b=some (.frz o (.lst xs))
theorem qL {P:wL}{w:xg}{K:wc}{mg mb:Str->Option wm}{CX:CXT}{k:Nat}{fa a:Addr}{fd:xB}{x:Str}{sp:Sp}{s₁:wu}{vs:List wm}{ns:List Int}
  (KX:K.In s₁.heap) (hns:s₁.heap.Ns xw mg) (hb:s₁.heap.Ns builtinsNs mb) (hbb:∀x:Str,x ≠ "__name__" -> mb x=xJ x) (hlim:s₁.heap.NoLimit) (hg:s₁.gens = #[])
  (ha:s₁.heap.get? a=some { cls :=.type "list",data :=.seq vs.toArray }) (hi:Aj vs ns) (hl:ns.length<=wo) (hr:cy k callerA)
  (F:∀base:Heap,K.In base->base.Ns xw mg->bF P w K mg base CX k fa fd [x] sp) (hbind:∀(s:wu) (u:wm),BindsTo s fd ⟨[u],[]⟩ [(x,u)])
  (hsp:∀H:Hp,uM H->SqL K H a (ns.map V.int)->sp [.ref a] H (λv _=>v = .bl true) λ_ _ _=>False)
  (hCX:∀H e s',CX [] H s₁ (λ_ _ _=>False) e s'->False) :
  BB (xk P w) callerA (.call (.ref fa) ⟨[.ref a],[]⟩) (λr s'=>r = .ok (.ret (.bool true))/\OldK s₁.heap s'.heap/\s'.os=s₁.os/\AllBare s'.gens) s₁:=by
 have rv:=gQ hi
 have lenV:=hi.length
 have core:∀H:Hp,uM H->SqL K H a (ns.map V.int)->HOk P w H s₁.heap->(∀b,H b≠none->b=a)->(H a≠none->K.lookup a=none) →
   BB (xk P w) callerA (.call (.ref fa) ⟨[.ref a],[]⟩) (λr s'=>r = .ok (.ret (.bool true))/\OldK s₁.heap s'.heap/\s'.os=s₁.os/\AllBare s'.gens) s₁:=by
  intro H hO hS hok hA hK
  have base_of:∀{b:Addr} {o:Obj},s₁.heap.get? b=some o->H b=none->(kz s₁.heap H).get? b=some o:=λe n=>qv e n
  have noA:∀{b:Addr} {o:Obj} {es:Array DictEntry} {ep:Nat},s₁.heap.get? b=some o->o.data = .dict es ep->H b=none:=λ{b o es ep} e d=>by
   cases q:H b with
   | none=>rfl
   | some u =>
    have e':b=a:=hA b (by rw[q];simp)
    subst e'
    rw[ha] at e;cases e
    have d':Data.seq vs.toArray _=Data.dict es ep:=d
    cases d'
  have nsK:∀{b:Addr} {m:Str->Option wm},s₁.heap.Ns b m->(kz s₁.heap H).Ns b m:=λ{b m} ⟨o,es,ep,e,d,r⟩=>⟨o,es,ep,base_of e (noA e d),d,r⟩
  have hKb:K.In (kz s₁.heap H):=λb o e=>base_of (KX b o e) (by
   cases q:H b with
   | none=>rfl
   | some u =>
    have e':b=a:=hA b (by rw[q];simp)
    subst e'
    rw[hK (by rw[q];simp)] at e;cases e)
  have hM:Mod K mg (kz s₁.heap H):=⟨hKb,nsK hns,⟨mb,nsK hb,hbb⟩,let ⟨mc,h1,h2⟩:=hlim;⟨mc,nsK h1,h2⟩⟩
  have e0:sC P w K mg (kz s₁.heap H) callerA [] s₁ H:=⟨rfl,hM,λb o e=>sk e,Nat.le_of_eq (oZ _ _),trivial,λb hb=>absurd (show b∈([]:List Addr) from hb) (by simp),hok,.of_eq hg⟩
  refine z8 ((F _ hKb (nsK hns)).run callerA [] s₁ H ⟨[.ref a],[]⟩ [.ref a] [.ref a] _ _ hr e0 (hbind s₁ (.ref a)) (.cons rfl .nil) (hsp H hO hS)) λr s' h =>?_
  cases r with
  | error e=>exact (hCX H e s' h).elim
  | ok fl =>
   cases fl with
   | next=>exact False.elim h
   | brk=>exact False.elim h
   | cont=>exact False.elim h
   | ret u =>
    obtain ⟨v,H',os,bare,un,hok',r',q⟩:=h
    have q':v = .bl true:=q
    subst q'
    obtain rfl:u=Value.bool true:=r'
    refine ⟨rfl,OldK.of_keep λb o e =>?_,os,bare⟩
    cases q:H b with
    | none=>exact un.keep b o e q (by intro z;exact absurd (show b∈([]:List Addr) from z) (by simp)) (by simp)
    | some u =>
     rcases hO b with z | ⟨ob,xs,z⟩
     ·rw[q] at z;cases z
     ·have z2:=un.frzs b ob _ z
      obtain ⟨e1,_⟩:=hok b _ z
      obtain ⟨e2,_⟩:=hok' b _ z2
      rw[e] at e1;cases e1
      exact e2
 cases hk:K.lookup a with
 | some o =>
  have e:=KX a o hk
  rw[ha] at e
  cases e
  refine core (λ_=>none) (λ_ =>.inl rfl) (.inr ⟨_,vs.toArray,_,hk,rfl,rfl,rfl,by rw[wk,lenV];exact hl,by simpa using rv⟩) (λb u z=>by have z':(none:Option HO)=some u:=z;cases z') (λb z=>absurd rfl z) λz=>absurd rfl z
 | none =>
  refine core (λb=>if b=a then some (.frz { cls :=.type "list",data :=.seq vs.toArray } (.lst (ns.map V.int))) else none) (λb =>?_) (.inl (.inr ⟨{ cls :=.type "list",data :=.seq vs.toArray },if_pos rfl⟩)) (λb u z =>?_) (λb z =>?_) λ_=>hk
  ·by_cases hb:b=a
   ·exact .inr ⟨_,_,if_pos hb⟩
   ·exact .inl (if_neg hb)
  ·by_cases hb:b=a
   ·have z':=(if_pos hb).symm.trans z
    cases z'
    subst hb
    exact ⟨ha,by rw[wd];exact hl,vs,_,rv,ha⟩
   ·have z':=(if_neg hb).symm.trans z
    cases z'
  ·by_cases hb:b=a
   ·exact hb
   ·exact absurd (if_neg hb) z
open PySem PySem.Spec PyProof.Rows
theorem sL {l:PySem.W.OpenLaw}{n k:Nat}{q:wL}{loose:List Str}{XP:(Str->Option wm)->Heap->Prop}{YP:xg->Heap->Prop}{d:DefRec}{K:Params->wc}{CX:xg->CXT}{sp:xg->Sp}{x:Str}
  (hn:l.most=some n) (hn2:n<=wo) (hdf:d.params.defaults=[]) (hr:cy k callerA)
  (hY:∀(w:xg) (h:Heap),YP w h->(K w.params).In h)
  (F:∀(w:xg) (mg:Str->Option wm) (fa:Addr) (h:Heap),(K w.params).In h->h.Ns xw mg->mg d.name=some (.ref fa) →
   ∃fd:xB,(∀(s:wu) (u:wm),BindsTo s fd ⟨[u],[]⟩ [(x,u)]) ∧
    ∀base:Heap,(K w.params).In base->base.Ns xw mg->bF l.prog w (K w.params) mg base (CX w) k fa fd [x] (sp w))
  (hsp:∀(w:xg) (H:Hp) (a:Addr) (ns:List Int),ns.length<=n->uM H->SqL (K w.params) H a (ns.map V.int)->sp w [.ref a] H (λv _=>v = .bl true) λ_ _ _=>False)
  (hCX:∀(w:xg) (H:Hp) (s:wu) (e:wm) (s':wu),CX w [] H s (λ_ _ _=>False) e s'->False) :
  PySem.W.WalkO q loose XP YP l.row.toRowW d [] (λf vs=>PySem.call f vs):=by
 refine Att.lI hn hdf λw s₀ s₁ mg mb fa o pm cd doc a vs ns G Y ho hd hcd hmg hobj hints hlen hg =>?_
 have KX:=hY w _ Y
 obtain ⟨fd,hb,hF⟩:=F w mg fa _ KX G.T.g hmg
 exact qL KX G.T.g G.T.b G.T.builtins G.T.nolimit hg hobj hints (xx hlen hn2) hr hF hb (λH hO hS=>hsp w H a ns hlen hO hS) λH e s'=>hCX w H s₁ e s'
open PySem PySem.Spec PyProof.Rows
def cM (s:Stmt):Arguments:=match s with
 | .FunctionDef _ a _ _ _ _ _ _ _ _=>a
 | _=>{ posonlyargs:=[],args:=[],vararg:=none,kwonlyargs:=[],kw_defaults:=[],kwarg:=none,defaults:=[] }
def cD (s:Stmt):List Stmt:=match s with
 | .FunctionDef _ _ b _ _ _ _ _ _ _=>b
 | _=>[]
def aB (s:Stmt):Scope:=match s with
 | .FunctionDef _ _ _ _ _ _ sc _ _ _=>sc
 | _=>{ kind :=.function,names:=[],isGenerator:=false,isCoroutine:=false }
abbrev CX0:CXT:=λ_ _ _ _ _ _=>False
abbrev E0:XK:=λ_ _ _=>False
theorem uc {X:Cx}:Passes CX0 X E0:=λ_ _ _ _ _ _ _ h=>h.elim
structure Fun (K:wc)(x qual:Str)(st:Stmt)(f:Addr)(fd:xB):Prop where
 ex:∃(oc:wm) (od:Option Addr) (kV doc pm:wm) (an:Option Addr) (cdv ct:wm) (osl:Array (Option wm)),
  fd=PySem.W.fnOf x qual (cM st) (cD st) (aB st) .none kV doc pm an cdv ct/\K.lookup f=some ⟨oc,od,.func fd,osl⟩/\PySem.W.codeIn K cdv qual=true
 kp:PySem.W.keepIn K (.ref f)=true
section
variable  {P:wL}{w:xg}{K:wc}{mg:Str->Option wm}{base:Heap}
theorem Fun.ok {x qual:Str}{st:Stmt}{f:Addr}{fd:xB}{N ps:List Str}{k:Nat}{sp:Sp}(F:Fun K x qual st f fd)(S:aO N ps (aB st))(len:∀vs H Q E,sp vs H Q E->vs.length=ps.length)
  (hbody:∀(cdv:wm) (A:xF) (outer:List Env) (s:wu) (H:Hp) (vs:List V) (Q:VK) (E:XK),cy k (A.deeper (envOfC qual (aB st) s.heap.objs.size f cdv))->sp vs H Q E →
   ∃t,PSs (pB CX0 P w K mg base N qual (aB st) f cdv A outer s H E).nox (cD st) t/\t { nx:=λ_ H'=>Q .non H',rt:=Q } (start N vs) H):bF P w K mg base CX0 (k+1) f fd ps sp:=by
 obtain ⟨oc,od,kV,doc,pm,an,cdv,ct,osl,rfl,lk,hcd⟩:=F.ex
 refine vL lk hcd S len λA outer s H vs Q E hr hsp =>?_
 obtain ⟨t,h,q⟩:=hbody cdv A outer s H vs Q E hr hsp
 exact ⟨t,h.nox,q⟩
theorem Fun.binds {x qual:Str}{st:Stmt}{f:Addr}{fd:xB}{ps:List Str}(F:Fun K x qual st f fd)
  (h:∀(kV doc pm:wm) (an:Option Addr) (cdv ct:wm) (us:List wm),us.length=ps.length->bindArgs (PySem.W.fnOf x qual (cM st) (cD st) (aB st) .none kV doc pm an cdv ct) ⟨us,[]⟩=pure (ps.zip us)):Binds K fd ps []:=by
 obtain ⟨oc,od,kV,doc,pm,an,cdv,ct,osl,rfl,lk,hcd⟩:=F.ex
 exact .all (h kV doc pm an cdv ct)
theorem mU {x qual:Str}{st:Stmt}{f:Addr}{oc:wm}{od an:Option Addr}{osl:Array (Option wm)}{kV doc pm cdv ct:wm}(l:K.lookup f=some ⟨oc,od,.func (PySem.W.fnOf x qual (cM st) (cD st) (aB st) .none kV doc pm an cdv ct),osl⟩)
  (c:PySem.W.codeIn K cdv qual=true) (k:PySem.W.keepIn K (.ref f)=true):Fun K x qual st f (PySem.W.fnOf x qual (cM st) (cD st) (aB st) .none kV doc pm an cdv ct):=⟨⟨oc,od,kV,doc,pm,an,cdv,ct,osl,rfl,l,c⟩,k⟩
end
theorem pF {n:Nat}(h:n<=1000):n<wo:=AX h (by decide)
section
variable  {X:Cx}
theorem pv (i:Nat){x:Str}{pos:Pos}(hN:X.N[i]? = some x:=by rfl)(hv:Vis X.env.scope x:=by first | exact Or.inl rfl | exact Or.inr (Or.inl rfl) | exact Or.inr (Or.inr rfl))(hd:(x == ("__debug__" : Str))=false:=by decide)
  (hcd:(x == ("__classdict__" : Str))=false:=by decide):PE X (.Name x pos) (vq i):=ux hN hv hd hcd
end
theorem aT {A B:Prop}(h:B):if false=true then A else B:=by
 rw[if_neg wG]
 exact h
theorem aS {A B:Prop}(h:A):if true=true then A else B:=by
 rw[if_pos rfl]
 exact h
theorem bN {c A B:Prop}[Decidable c](h1:c->A)(h2:¬ c->B):if c then A else B:=by
 by_cases h:c
 ·rw[if_pos h]
  exact h1 h
 ·rw[if_neg h]
  exact h2 h
theorem ud {c A B:Prop}[Decidable c](hc:c)(h:B):if (!decide c)=true then A else B:=by
 rw[decide_eq_true hc]
 exact aT h
def aK (H H':Hp):Prop:=∀b o,H b=some o->H' b=some o
theorem aK.refl (H:Hp):aK H H:=λ_ _ h=>h
theorem aK.trans {H H1 H2:Hp}(a:aK H H1)(b:aK H1 H2):aK H H2:=λc o h=>b c o (a c o h)
theorem aK.free {H H':Hp}(e:aK H H'){l:Addr}(h:H' l=Option.none):H l=Option.none:=by
 cases q:H l with
 | none=>rfl
 | some o =>
  rw[e l o q] at h
  cases h
theorem aK.seq {K:wc}{H H':Hp}{a:Addr}{xs:List V}(e:aK H H')(h:SqL K H a xs):SqL K H' a xs:=by
 rcases h with (h | ⟨o,h⟩) | h
 ·exact .inl (.inl (e _ _ h))
 ·exact .inl (.inr ⟨o,e _ _ h⟩)
 ·exact .inr h
end L2
set_option maxHeartbeats 4000000
namespace L2
open PySem PySem.Spec PyProof.Rows
def lJ (on:List (Str×NameKind))(N:List Str)(sc:Scope)(N':List Str)(ix:List (Option Nat)):Bool :=
 decide (sc.kind = .function) &&
 sc.names.all (λy=>match y.2 with
  | .local=>decide (sc.names.lookup y.1=some .local)
  | .cell=>false
  | .free=>decide (on.lookup y.1=some .cell) || decide (on.lookup y.1=some .free)
  | _=>true) &&
 decide (ix.length=N'.length) &&
 (ix.zip N').all (λp=>match p.1 with
  | none=>true
  | some j=>decide (N[j]? = some p.2) && decide (sc.names.lookup p.2=some .free))
theorem ib {ns:List (Str×NameKind)}{y:Str}{k:NameKind}(h:ns.lookup y=some k):(y,k)∈ns:=yX h
structure iV (on:List (Str×NameKind))(N:List Str)(sc:Scope)(N':List Str)(ix:List (Option Nat)):Prop where
 kind:sc.kind = .function
 locs:∀y∈sc.names,y.2 = .local->sc.names.lookup y.1=some .local
 nocell:∀y∈sc.names,y.2 ≠ .cell
 frees:∀y∈sc.names,y.2 = .free->on.lookup y.1=some .cell\/on.lookup y.1=some .free
 len:ix.length=N'.length
 slot:∀(i j:Nat) (y:Str),ix[i]? = some (some j)->N'[i]? = some y->N[j]? = some y/\sc.names.lookup y=some .free
theorem iV.of {on:List (Str×NameKind)}{N:List Str}{sc:Scope}{N':List Str}{ix:List (Option Nat)}(h:lJ on N sc N' ix=true):iV on N sc N' ix:=by
 unfold lJ at h
 rw[xQ,xQ,xQ] at h
 obtain ⟨⟨⟨h1,h2⟩,h3⟩,h4⟩:=h
 rw[yq] at h2 h4
 refine ⟨of_decide_eq_true h1,λy hy e =>?_,λy hy e =>?_,λy hy e =>?_,of_decide_eq_true h3,λi j y e1 e2 =>?_⟩
 ·have q:=h2 y hy
  rw[e] at q
  exact of_decide_eq_true q
 ·have q:=h2 y hy
  rw[e] at q
  cases q
 ·have q:=h2 y hy
  rw[e] at q
  exact ((Bool.or_eq_true _ _).mp q).imp of_decide_eq_true of_decide_eq_true
 ·have q:=h4 (some j,y) (wR (i:=i) (by rw[A6];exact ⟨e1,e2⟩))
  dsimp only at q
  rw[xQ] at q
  exact ⟨of_decide_eq_true q.1,of_decide_eq_true q.2⟩
theorem ie {α β:Type}(f:α -> β -> β)(b:α -> β -> Sem (ForInStep β)):∀(l:List α) (c:β),(∀x∈l,∀d,b x d=pure (.yield (f x d)))->forIn l c b=pure (l.foldl (λd x=>f x d) c)
 | [],c,_=>rfl
 | x :: l,c,h=>by
  rw[List.forIn_cons,h x wY,pure_bind]
  exact ie f b l (f x c) λy hy=>h y (xf _ hy)
def aX (env:Env)(l:List (Str×NameKind))(c:List (Str×Addr)):List (Str×Addr) :=
 l.foldl (λd y=>if y.2 = .free then (y.1,(env.cells.lookup y.1).getD 0) :: d else d) c
theorem mV {sc:Scope}{env:Env}(h:∀y∈sc.names,y.2 = .free->∃c,env.cells.lookup y.1=some c):closureFor sc env=pure (aX env sc.names []):=by
 simp only[closureFor]
 unfold aX
 rw[ie (λy d=>if y.2 = .free then (y.1,(env.cells.lookup y.1).getD 0) :: d else d)]
 ·rfl
 ·rintro ⟨n,k⟩ hy d
  by_cases hk:k = .free
  ·subst hk
   obtain ⟨c,e⟩:=h _ hy rfl
   have e':env.cells.lookup n=some c:=e
   simp only[beq_self_eq_true,if_true,cellOf,e',Option.getD_some]
   rfl
  ·have hb:(k == NameKind.free)=false:=by simpa using hk
   simp only[hb,yx,if_false,hk]
theorem cN {env:Env}{y:Str}{c:Addr}:∀(l:List (Str×NameKind)) (d:List (Str×Addr)),(∀z∈l,z.2 = .free->∃c,env.cells.lookup z.1=some c)->(aX env l d).lookup y=some c →
  d.lookup y=some c\/env.cells.lookup y=some c
 | [],d,_,h =>.inl h
 | (n,k) :: l,d,hf,h=>by
  have h':(aX env l (if k = .free then (n,(env.cells.lookup n).getD 0) :: d else d)).lookup y=some c:=h
  have ih:=cN l _ (λz hz=>hf z (xf _ hz)) h'
  by_cases hk:k = .free
  ·subst hk
   rw[if_pos rfl] at ih
   rcases ih with q | q
   ·rw[zU] at q
    cases hx:(y == n) with
    | true =>
     rw[hx] at q
     obtain ⟨c',e⟩:=hf (n,.free) wY rfl
     have e':env.cells.lookup n=some c':=e
     have q':some ((env.cells.lookup n).getD 0)=some c:=q
     rw[e'] at q'
     have en:y=n:=eq_of_beq hx
     rw[en,e']
     exact .inr q'
    | false =>
     rw[hx] at q
     exact .inl q
   ·exact .inr q
  ·rw[if_neg hk] at ih
   exact ih
theorem dP {env:Env}{y:Str}:∀(l:List (Str×NameKind)) (d:List (Str×Addr)),((y,NameKind.free)∈l\/∃c,d.lookup y=some c)->∃c,(aX env l d).lookup y=some c
 | [],d,h=>by
  rcases h with h | h
  ·cases h
  ·exact h
 | (n,k) :: l,d,h=>by
  show ∃c,(aX env l (if k = .free then (n,(env.cells.lookup n).getD 0) :: d else d)).lookup y=some c
  refine dP l _ ?_
  have old:(∃c,d.lookup y=some c)->∃c,(if k = .free then (n,(env.cells.lookup n).getD 0) :: d else d).lookup y=some c:=λ⟨c,e⟩=>by
   by_cases hk:k = .free
   ·rw[if_pos hk,zU]
    cases hx:(y == n) with
    | true=>exact ⟨_,rfl⟩
    | false=>exact ⟨c,e⟩
   ·rw[if_neg hk];exact ⟨c,e⟩
  rcases h with h | h
  ·rcases wZ.mp h with q | q
   ·cases q
    rw[if_pos rfl,zU,beq_self_eq_true]
    exact .inr ⟨_,rfl⟩
   ·exact .inl q
  ·exact .inr (old h)
theorem iW {c:Str->NameKind->Bool}{y:Str}:∀l:List (Str×NameKind),(l.map λz=>if c z.1 z.2=true then (z.1,NameKind.cell) else (z.1,z.2)).lookup y=(l.lookup y).map λk=>if c y k=true then NameKind.cell else k
 | []=>rfl
 | (n,k) :: l=>by
  have ih:=iW (c:=c) (y:=y) l
  rw[xv]
  have e:(if c n k=true then (n,NameKind.cell) else (n,k))=(n,if c n k=true then NameKind.cell else k):=by split <;> rfl
  show List.lookup y ((if c n k=true then (n,NameKind.cell) else (n,k)) :: _)=_
  rw[e,zU,zU]
  cases hx:(y == n) with
  | true =>
   have en:y=n:=eq_of_beq hx
   subst en
   rfl
  | false=>exact ih
def blk (X:Cx)(sc:Scope)(cl:List (Str×Addr))(C:Addr)(N':List Str)(s:wu)(H:Hp)(fp:List Addr):Cx :=
 { X with N:=N',s₀:=s,H₀:=H,env:=compEnvC sc cl C X.env,outer:=X.stack,ex:=fp,fn:=λ_=>false,pn:=[],xe:=λ_ _=>False }
def PF (X:Cx)(ifs:List Expr)(t:TT):Prop :=
  ∀(pins:List (Addr×Obj)) (s:wu) (σ:St) (H:Hp) (Q:Bool->Hp->Prop),Inv X pins σ H s->t σ H Q →
    wX (xk X.prog X.w) X.A (forIn ifs true λc r=>if r=true then do let ok ← isTrue c X.env (eval c X.env);pure (ForInStep.yield ok) else pure (ForInStep.yield r)) (TP X pins σ Q) X.xe s
theorem bQ {X:Cx}:PF X [] (λ_ H Q=>Q true H):=λ_ _ _ H _ I h=>wpAny_tests_nil ⟨H,I,h⟩
theorem iX {X:Cx}{c:Expr}{t:TT}(h:PT X c t):PF X [c] t:=λpins s σ H Q I q=>wpAny_tests_one (h pins s σ H Q I q)
def inner (ix:List (Option Nat))(σ:St):St:=ix.map λo=>match o with | none=>none | some j=>(σ[j]?).join
def fM (J:It)(g:TG)(tc:TT)(te:TE)(τ:St)(Q:VK)(H1:Hp):Prop:=∃W:Nat->Nat->St->List V->Hp->Prop,(∃m,W 0 m τ [] H1)/\∀i m τ ys H,W i m τ ys H →
 (J.stop i H/\ys.length<=wo/\∀l,H l=none->Q (.ref l) (upd H l (.lst ys))) ∨
 (J.go i H/\∀x H',J.yld i H x H'->g x τ H' λτ2 H2=>tc τ2 H2 λb H3=>if b=true then te τ2 H3 λy H4=>ys.length<wo/\∃m',m'<m/\W (i+1) m' τ2 (ys++[y]) H4 else ∃m',m'<m/\W (i+1) m' τ2 ys H3)
def qM (ix:List (Option Nat))(wi:TI)(g:TG)(tc:TT)(te:TE):TE:=λσ H Q=>wi σ H λJ H1=>fM J g tc te (inner ix σ) Q H1
section
variable  {X:Cx}{sc:Scope}{N':List Str}{ix:List (Option Nat)}{pins:List (Addr×Obj)}{σ:St}{H:Hp}{s:wu}
theorem uN (I:Inv X pins σ H s)(K:iV X.env.scope.names X.N sc N' ix){C:Addr}{fp:List Addr}(hC:s.heap.objs.size<=C)(f:∀b∈fp,iw X pins H b)(fl:∀b∈fp,b<s.heap.objs.size) :
  (blk X sc (aX X.env sc.names []) C N' s H fp).Ok:=by
 have hcl:∀y∈sc.names,y.2 = .free->∃c,X.env.cells.lookup y.1=some c:=λy hy e=>I.ok.has y.1 (K.frees y hy e)
 have up:∀y c,(aX X.env sc.names []).lookup y=some c->X.env.cells.lookup y=some c:=λy c e=>by
  rcases cN sc.names [] hcl e with q | q
  ·cases q
  ·exact q
 have nfs:∀b∈fp,b∉frs X.stack:=λb hb z=>by
  rcases wZ.mp (I.kA b z) with q | q
  ·exact (f b hb).2.1 q
  ·exact (f b hb).2.2.1 q
 refine ⟨I.ok.mod,K.kind,I.ok.glob,I.ok.blt,hC,λy z c h1 h2=>I.ok.inj y z c (up _ _ h1) (up _ _ h2),λy hy =>?_,(λy c h=>nomatch h),I.ok.hd,I.ok.frames,.inl rfl,λb hb =>?_,λb o e=>I.bs b o e,xx I.ok.bsz I.sz,λb o e hb =>?_,nfs,I.stack,I.nW⟩
 ·have hy':(relabel sc X.env).names.lookup y=some .cell\/(relabel sc X.env).names.lookup y=some .free:=hy
  have em:=iW (c:=λn k=>k == .free && X.env.scope.kind == .function && X.env.kindOf n == some .cell) (y:=y) sc.names
  have em':(relabel sc X.env).names.lookup y=_:=em
  rw[em'] at hy'
  cases hq:sc.names.lookup y with
  | none=>rw[hq] at hy';rcases hy' with q | q <;> cases q
  | some k =>
   have km:=ib hq
   have hk:k = .free:=by
    rw[hq] at hy'
    simp only[BO,Option.some.injEq] at hy'
    by_cases hc:(k == .free && X.env.scope.kind == .function && X.env.kindOf y == some .cell)=true
    ·rw[xQ,xQ] at hc
     exact by simpa using hc.1.1
    ·rw[if_neg hc] at hy'
     rcases hy' with q | q
     ·exact absurd q (K.nocell _ km)
     ·exact q
   subst hk
   exact dP sc.names [] (.inl km)
 ·exact ⟨wV (wO (fl b hb) hC),λy c e=>(f b hb).2.2.2.2.1 y c (up y c e)⟩
 ·rcases (f b hb).2.2.2.1 with q | q
  ·exact I.ok.noex b o e q
  ·exact absurd (wO (wJ e) (xx I.ok.bsz q)) (xK _)
theorem sM (I:Inv X pins σ H s)(K:iV X.env.scope.names X.N sc N' ix){C:Addr}{fp:List Addr}(hC:s.heap.objs.size<=C)(f:∀b∈fp,iw X pins H b)(fl:∀b∈fp,b<s.heap.objs.size)
  {h1:Heap} {t:Nat} {m:Str->Option wm} (k:∀b o,s.heap.get? b=some o->h1.get? b=some o) (ns:h1.Ns C m) :
  Inv (blk X sc (aX X.env sc.names []) C N' s H fp) [] (inner ix σ) H { s with heap:=h1,toks:=t }:=by
 have hcl:∀y∈sc.names,y.2 = .free->∃c,X.env.cells.lookup y.1=some c:=λy hy e=>I.ok.has y.1 (K.frees y hy e)
 have up:∀y c,(aX X.env sc.names []).lookup y=some c->X.env.cells.lookup y=some c:=λy c e=>by
  rcases cN sc.names [] hcl e with q | q
  ·cases q
  ·exact q
 refine ⟨uN I K hC f fl,rfl,I.bare,Un.kept k,⟨m,ns,λi y v e1 e2 e3 =>?_⟩,λy c e =>?_,I.hok.fresh hC,λy c e=>I.freeC y c (up y c e),(λp hp=>nomatch hp),I.hok.kept k,?_⟩
 ·have e2':(ix.map λo=>match o with | none=>none | some j=>(σ[j]?).join)[i]? = some (some v):=e2
  rw[xh] at e2'
  cases hi:ix[i]? with
  | none=>rw[hi] at e2';cases e2'
  | some o =>
   cases o with
   | none=>rw[hi] at e2';cases e2'
   | some j =>
    rw[hi] at e2'
    have e4:(σ[j]?).join=some v:=xt e2'
    have e5:σ[j]? = some (some v):=by
     cases hj:σ[j]? with
     | none=>rw[hj] at e4;cases e4
     | some z=>rw[hj] at e4;rw[show z=some v from e4]
    obtain ⟨n1,n2⟩:=K.slot i j y hi e1
    have mem:=ib n2
    have kc:X.env.kindOf y=some .cell\/X.env.kindOf y=some .free:=K.frees _ mem rfl
    obtain ⟨m',_,hl⟩:=I.loc
    obtain ⟨u,r,l⟩:=hl j y v n1 e5 (.inr kc)
    refine ⟨u,r,?_⟩
    rcases l with ⟨q,_⟩ | ⟨_,c,q,z⟩
    ·rcases kc with kc | kc <;> (rw[kc] at q;cases q)
    ·obtain ⟨c',hc'⟩:=dP (env:=X.env) (y:=y) sc.names [] (.inl mem)
     have:=up y c' hc'
     rw[q] at this
     cases this
     refine .inr ⟨?_,c,hc',z.keeps k⟩
     have em:=iW (c:=λn k=>k == .free && X.env.scope.kind == .function && X.env.kindOf n == some .cell) (y:=y) sc.names
     have em':(relabel sc X.env).names.lookup y=_:=em
     rcases kc with kc | kc
     ·left
      show (relabel sc X.env).names.lookup y=some .cell
      rw[em',n2]
      simp only[BO,kc,I.ok.kind]
      rfl
     ·right
      show (relabel sc X.env).names.lookup y=some .free
      rw[em',n2]
      simp only[BO,kc,I.ok.kind]
      rfl
 ·obtain ⟨v,z⟩:=I.cell y c (up y c e)
  exact ⟨v,z.keeps k⟩
 ·show (ix.map _).length=N'.length
  rw[wd]
  exact K.len
end
open PySem PySem.Spec PyProof.Rows
theorem mW {prog:wL}{w:xg}{A:xF}{R:Result->wu->Prop}{s:wu}{elt target iter:Expr}{ifs:List Expr}{sc:Scope}{pos:Pos}{it acc:wm}{env:Env}(J:Nat->wu->Prop)
    (turn:∀n s,J n s->wX (xk prog w) A (pyNext it) (λr s1=>match r with
      | none=>R (.ok .next) s1
      | some v=>wX (xk prog w) A (letOwnedTupleGo target it v) (λ_ s2=>wX (xk prog w) A (assign target env v) (λ_ s3 =>
          wX (xk prog w) A (forIn ifs true λc r=>if r=true then do let ok ← isTrue c env (eval c env);pure (ForInStep.yield ok) else pure (ForInStep.yield r)) (λok s4 =>
            if ok=true then wX (xk prog w) A (eval elt env) (λx s5=>wX (xk prog w) A (call (.builtin "list.append") [acc,x]) (λ_ s6=>∃m,m<n/\J m s6) (λ_ _=>False) s5) (λ_ _=>False) s4
            else ∃m,m<n/\J m s4) (λ_ _=>False) s3) (λ_ _=>False) s2) (λ_ _=>False) s1) (λ_ _=>False) s)
    (n:Nat) (h:J n s):BB (xk prog w) A (.compLoop (.ListComp elt [⟨target,iter,ifs,0⟩] sc pos) 0 it acc env) R s:=by
  refine codeAny_loop rfl J (λk t q =>?_) n h
  show wX _ A (Sem.onRaise (compTurn (.ListComp elt [⟨target,iter,ifs,0⟩] sc pos) 0 it acc env) (λx=>do noteFrame x env;theTreesLotGoes x)) _ _ t
  refine wpAny_noted ?_
  rw[compTurn_list]
  have no:∀{E:wm->wu->Prop} (x:wm) (t:wu),False->E x t:=λ_ _ z=>z.elim
  refine wg (CI (wg (zi (turn k t q) (λr s1 h1 =>?_) no)))
  cases r with
  | none=>exact wA h1
  | some v =>
    refine wg (zi h1 (λ_ s2 h2=>wg (zi h2 (λ_ s3 h3=>wg (zi h3 (λok s4 h4 =>?_) no)) no)) no)
    cases ok with
    | false=>exact wA ⟨rfl,h4⟩
    | true=>exact wg (wg (zi h4 (λx s5 h5=>wg (zi h5 (λ_ s6 h6=>wA (wA ⟨rfl,h6⟩)) no)) no))
section
variable  {X:Cx}
def sN (X:Cx)(pins:List (Addr×Obj))(σ:St)(Q:VK)(use:Option (wm->Sem Unit))(Q2:wm->wu->Prop):Prop :=
 ∀(s4:wu) (H3:Hp) (acc C:Addr) (ys:List V) (oC:Obj),Inv X (pins++[(C,oC)]) σ (upd H3 acc (.lst ys)) s4->(∃m,s4.heap.Ns C m)->X.s₀.heap.objs.size<=C->(∀x c,X.env.cells.lookup x=some c->c≠C)->(∀p∈X.pn++pins,p.1≠C)->Q (.ref acc) (upd H3 acc (.lst ys)) →
  compPost (xk X.prog X.w) X.A X.xe use Q2 (.ref acc) C (.ok .next) s4
theorem jY {elt target iter:Expr}{ifs:List Expr}{sc:Scope}{pos ps:Pos}{wi:TI}{g:TG}{tc:TT}{te:TE}{N':List Str}{ix:List (Option Nat)}{use:Option (wm->Sem Unit)}{Q2:wm->wu->Prop}
  {pins:List (Addr×Obj)} {s:wu} {σ:St} {H:Hp} {Q:VK}
  (hcalm:X.calm=true) (hi:PI X target iter wi) (hk:lJ X.env.scope.names X.N sc N' ix=true)
  (hg:∀cl C s H fp,PG (blk X sc cl C N' s H fp) target g) (hc:∀cl C s H fp,PF (blk X sc cl C N' s H fp) ifs tc) (he:∀cl C s H fp,PE (blk X sc cl C N' s H fp) elt te)
  (hs:∀x,foldedSetIterable iter X.env x=pure x) (fin:sN X pins σ Q use Q2) (I:Inv X pins σ H s) (h:qM ix wi g tc te σ H Q) :
  wX (xk X.prog X.w) X.A (comprehension (.ListComp elt [⟨target,iter,ifs,0⟩] sc pos) sc X.env ps (newList []) false (eval iter X.env) use) Q2 X.xe s:=by
 have K:=iV.of hk
 have hcl:∀y∈sc.names,y.2 = .free->∃c,X.env.cells.lookup y.1=some c:=λy hy e=>I.ok.has y.1 (K.frees y hy e)
 refine wpAny_comprehension_free rfl hs (mV hcl) K.kind K.locs (thn (hi pins s σ H _ I h) λv s1 h1=>thn h1 λitv s2 h2 =>?_)
 obtain ⟨it,fp,tn,J,H2,e,I2,T,st2,f2,W,⟨m0,w0⟩,turn⟩:=h2
 subst e
 refine xG (wpAny_newFunctionEnv K.nocell (by intro y hy;simp at hy) (λh1 ns1 sb1 =>?_) K.kind)
 dsimp only at ns1 sb1 ⊢
 generalize hP:s2.heap.push { cls :=.type "list",dict:=none,data :=.seq ([]:List wm).toArray }=G at ns1 sb1 ⊢
 have sG:G.objs.size=s2.heap.objs.size+1:=by rw[<- hP,yR]
 have fl:∀b∈fp,b<s2.heap.objs.size:=λb hb=>by
  obtain ⟨o,e,_⟩:=T.obj _ _ st2 b hb
  exact wJ e
 have hC:s2.heap.objs.size<=G.objs.size:=by rw[sG];exact Bq _
 have aC:s2.heap.objs.size≠G.objs.size:=by rw[sG];exact wV (yr _)
 have old:∀b o,s2.heap.get? b=some o->h1.get? b=some o:=λb o e=>by
  have lt:=wJ e
  have ne:b≠G.objs.size:=wV (wO lt hC)
  rw[sb1.2 b ne]
  exact we _ (hP ▸ we _ e)
 have accO:h1.PlainList s2.heap.objs.size #[]:=⟨_,by
  rw[sb1.2 _ aC]
  exact we _ (hP ▸ wH _ rfl)⟩
 have IB:=sM (t:=s2.toks+([]:List (Str×wm)).length) I2 K hC f2 fl old ns1
 have up:∀y c,(aX X.env sc.names []).lookup y=some c->X.env.cells.lookup y=some c:=λy c e=>by
  rcases cN sc.names [] hcl e with q | q
  ·cases q
  ·exact q
 have accNotCell:∀y c,(aX X.env sc.names []).lookup y=some c->c≠s2.heap.objs.size:=λy c e z=>by
  obtain ⟨v,q⟩:=I2.cell y c (up y c e)
  exact absurd q.lt (by rw[z];exact xK _)
 have accFs:s2.heap.objs.size∉frs X.stack:=λz=>by
  rcases wZ.mp (I2.kA _ z) with q | q
  ·exact absurd I2.lt (by rw[<- q];exact xK _)
  ·exact I2.uw (wq _) q
 have accFp:s2.heap.objs.size∉fp:=λz=>absurd (fl _ z) (xK _)
 have stat:∀{H':Hp} {ob:Obj},(∀b∈fp,H' b=none)->∀b∈fp,iw (blk X sc (aX X.env sc.names []) G.objs.size N' s2 H2 fp) [(s2.heap.objs.size,ob)] H' b:=λ{H' ob} hn b hb=>by
  refine ⟨hn b hb,wV (wO (fl b hb) hC),IB.ok.exfs b hb,.inl hb,λy c e=>(f2 b hb).2.2.2.2.1 y c (up y c e),λp hp z =>?_⟩
  have ep:p=(s2.heap.objs.size,ob):=by simpa [blk] using hp
  subst ep
  exact accFp (by rw[show s2.heap.objs.size=b from z];exact hb)
 have accPin:∀{pl:List (Addr×Obj)} {σ':St} {H':Hp} {s':wu} {its:Array wm} {n:Nat},Inv (blk X sc (aX X.env sc.names []) G.objs.size N' s2 H2 fp) pl σ' H' s'->s'.heap.get? s2.heap.objs.size=some { cls :=.type "list",data :=.seq its n } →
   H' s2.heap.objs.size=none->Inv (blk X sc (aX X.env sc.names []) G.objs.size N' s2 H2 fp) [(s2.heap.objs.size,{ cls :=.type "list",data :=.seq its n })] σ' H' s':=λ{pl σ' H' s' its n} J' e nn=>J'.gj λp hp=>by
  have ep:p=(s2.heap.objs.size,({ cls :=.type "list",data :=.seq its n }:Obj)):=by simpa [blk] using hp
  subst ep
  exact ⟨e,nn,aC,accFs,λv z=>nomatch z⟩
 have loop:BB (xk X.prog X.w) X.A (.compLoop (.ListComp elt [⟨target,iter,ifs,0⟩] sc pos) 0 (.ref it) (.ref s2.heap.objs.size) (compEnvC sc (aX X.env sc.names []) G.objs.size X.env))
   (compPost (xk X.prog X.w) X.A X.xe use Q2 (.ref s2.heap.objs.size) G.objs.size) { s2 with heap:=h1,toks:=s2.toks+([]:List (Str×wm)).length }:=by
  refine mW (λn s'=>∃i ys its nn σ' H',Inv (blk X sc (aX X.env sc.names []) G.objs.size N' s2 H2 fp) [(s2.heap.objs.size,{ cls :=.type "list",data :=.seq its nn })] σ' H' s'/\Vals ys its.toList/\tn i s'.heap/\(∀b∈fp,H' b=none)/\W i n σ' ys H')
   (λn s3 h3 =>?_) m0 ?_
  ·obtain ⟨i,ys,its,nn,σ3,H3,I3,r3,st3,fr3,w3⟩:=h3
   obtain ⟨e3,a3,_,_,_⟩:=I3.pin (s2.heap.objs.size,{ cls :=.type "list",data :=.seq its nn }) (by simp[blk])
   rcases turn i n σ3 ys H3 w3 with ⟨stop,zl,q3⟩ | ⟨go,step⟩
   ·refine thn (T.done (blk X sc (aX X.env sc.names []) G.objs.size N' s2 H2 fp) rfl rfl rfl hcalm i _ s3 σ3 H3 _ I3 (stat fr3) st3 stop) λr s4 ⟨hr,I4⟩ =>?_
    subst hr
    obtain ⟨e4,a4,_,_,_⟩:=I4.pin (s2.heap.objs.size,{ cls :=.type "list",data :=.seq its nn }) (by simp[blk])
    obtain ⟨m4,n4,_⟩:=I4.loc
    obtain ⟨oC,es4,ep4,c4,d4,r4⟩:=id n4
    have ltA:∀b o,s2.heap.get? b=some o->b≠s2.heap.objs.size:=λb o e=>wV (wJ e)
    have B:=I4.base
    have hok:HOk X.prog X.w (upd H3 s2.heap.objs.size (.lst ys)) s4.heap:=λb o e=>by
     by_cases hb:b=s2.heap.objs.size
     ·subst hb
      rw[ae] at e
      cases e
      exact ⟨zl,its.toList,nn,r3,e4⟩
     ·rw[aF hb] at e
      refine (I4.hok b o e).mL (λc u hc q=>q) (λc q =>?_) (λc xs q =>?_)
      ·rw[aF (aR q a4)];exact q
      ·rw[aF (aR q a4)];exact q
    have I5:Inv X pins σ (upd H3 s2.heap.objs.size (.lst ys)) s4:=by
     refine I2.vp (ch:=fp) I4.os ⟨λb o e n hb hx=>B.keep b o e n hb hx,λb o e n hb hx=>B.slot b o e n hb hx,λb o e n hx =>?_,λb o e hx=>B.there b o e hx,λb xs e =>?_,λb o u e =>?_,λb ps e =>?_⟩ hok I4.bare (λb hb =>?_)
     ·rw[aF (ltA b o e)];exact B.free b o e n hx
     ·have q:=B.tups b xs e
      rw[aF (aR q a4)];exact q
     ·have q:=B.frzs b o u e
      rw[aF (aR q a4)];exact q
     ·obtain ⟨more,q⟩:=B.tbls b ps e
      exact ⟨more,by rw[aF (aR q a4)];exact q⟩
     ·obtain ⟨g0,g1,g2,g3,g4,g5⟩:=f2 b hb
      exact ⟨g3,g1,g4,g5⟩
    have cL:G.objs.size≠X.env.locals:=y7 (wO I2.lt hC)
    have I6:Inv X (pins++[(G.objs.size,oC)]) σ (upd H3 s2.heap.objs.size (.lst ys)) s4:=I5.gj λp hp=>by
     rcases wC.mp hp with q | q
     ·exact I5.pin p (xb _ q)
     ·have ep:p=(G.objs.size,oC):=by simpa using q
      subst ep
      exact ⟨c4,by rw[aF (zF aC)];exact I4.free,cL,I2.uw hC,λv z=>by rw[d4] at z;cases z⟩
    refine fin s4 H3 s2.heap.objs.size G.objs.size ys oC I6 ⟨m4,n4⟩ (xx I2.sz hC) (λy c e z =>?_) (λp hp z =>?_) (q3 _ a4)
    ·obtain ⟨v,q⟩:=I2.cell y c e
     exact absurd (wO q.lt hC) (by rw[z];exact xK _)
    ·exact absurd (wO (wJ (I2.pin p hp).1) hC) (by rw[z];exact xK _)
   ·refine thn (T.item (blk X sc (aX X.env sc.names []) G.objs.size N' s2 H2 fp) rfl rfl rfl hcalm i _ s3 σ3 H3 _ I3 (stat fr3) st3 go) λr s4 ⟨u,hr,h4⟩ =>?_
    subst hr
    refine thn h4 λ_ s5 ⟨x,H5,I5,r5,y5,st5,fr5⟩ =>?_
    have I5':=I5.pinned (stat fr5) (T.obj _ _ st5)
    refine thn (hg _ _ _ _ _ _ s5 σ3 H5 x u _ I5' r5 (step x H5 y5)) λ_ s6 ⟨σ6,H6,I6,q6⟩ =>?_
    refine thn (hc _ _ _ _ _ _ s6 σ6 H6 _ I6 q6) λok s7 ⟨H7,I7,q7⟩ =>?_
    have back:∀{σ7:St} {H7:Hp} {s7:wu},Inv (blk X sc (aX X.env sc.names []) G.objs.size N' s2 H2 fp) ([(s2.heap.objs.size,{ cls :=.type "list",data :=.seq its nn })]++fQ fp s5.heap) σ7 H7 s7->tn (i+1) s7.heap/\∀b∈fp,H7 b=none:=λJ7 =>
     ⟨T.keep _ _ _ st5 λb hb o e=>(J7.pin (b,o) (xb _ (xb _ (cX hb e)))).1,λb hb=>by
      obtain ⟨o,e,d⟩:=T.obj _ _ st5 b hb
      exact (J7.pin (b,o) (xb _ (xb _ (cX hb e)))).2.1⟩
    cases ok with
    | false =>
     rw[if_neg (by decide)] at q7
     obtain ⟨m',lm,w7⟩:=q7
     show ∃m,m<n/\_
     exact ⟨m',lm,i+1,ys,its,nn,σ6,H7,I7.dD,r3,(back I7).1,(back I7).2,w7⟩
    | true =>
     rw[if_pos rfl] at q7
     refine thn (he _ _ _ _ _ _ s7 σ6 H7 _ I7 q7) λz s8 ⟨y,H8,I8,r8,lz,m',lm,w8⟩ =>?_
     obtain ⟨e8,a8,_,_,_⟩:=I8.pin (s2.heap.objs.size,{ cls :=.type "list",data :=.seq its nn }) (by simp[blk])
     have sz:its.size<=wo:=by
      have l:ys.length=its.size:=r3.length.trans wy
      rw[<- l]
      exact Ar lz
     refine wpAny_list_append_plain ⟨nn,e8⟩ (λh' pl' sb' =>?_) sz
     obtain ⟨n9,e9⟩:=pl'
     have I8p:Inv (blk X sc (aX X.env sc.names []) G.objs.size N' s2 H2 fp) (fQ fp s5.heap) σ6 H8 s8:=I8.gj λp hp=>I8.pin p (xb _ (xb _ hp))
     have I9:=I8p.turned (it:=s2.heap.objs.size) (h':=h') (t':=s8.toks) (λb o ne e=>by rw[sb'.2 b ne];exact e) a8 aC (.inr (wq _)) (λy c e=>accNotCell y c e) (λp hp z=>by
      have hp':p∈fQ fp s5.heap:=by simpa [blk] using hp
      exact accFp (by rw[<- z];exact (jS hp').1))
     have b9:tn (i+1) h'/\∀b∈fp,H8 b=none :=
      ⟨T.keep _ _ _ st5 λb hb o e=>(I9.pin (b,o) (xb _ (cX hb e))).1,(back I8).2⟩
     exact ⟨m',lm,i+1,ys++[y],its.push z,n9,σ6,H8,accPin I9 e9 a8,by rw[zf];exact r3.append (.cons r8 .nil),b9.1,b9.2,w8⟩
  ·obtain ⟨n0,e0⟩:=accO
   exact ⟨0,[], #[],n0,_,H2,accPin IB e0 (I2.hok.fresh (wq _)),.nil,T.keep _ _ _ st2 λb hb o e=>old b o e,λb hb=>(f2 b hb).1,w0⟩
 exact codeAny_compStart_list loop (T.self _ 0 _ _ _ (T.keep _ _ _ st2 λb hb o e=>old b o e) loop)
theorem bD {elt target iter:Expr}{ifs:List Expr}{sc:Scope}{pos:Pos}{wi:TI}{g:TG}{tc:TT}{te:TE}(N':List Str)(ix:List (Option Nat))
  (hcalm:X.calm=true) (hi:PI X target iter wi) (hk:lJ X.env.scope.names X.N sc N' ix=true)
  (hg:∀cl C s H fp,PG (blk X sc cl C N' s H fp) target g) (hc:∀cl C s H fp,PF (blk X sc cl C N' s H fp) ifs tc) (he:∀cl C s H fp,PE (blk X sc cl C N' s H fp) elt te)
  (hs:∀x,foldedSetIterable iter X.env x=pure x:=by intro _;rfl):PE X (.ListComp elt [⟨target,iter,ifs,0⟩] sc pos) (qM ix wi g tc te):=by
 intro pins s σ H Q I h
 rw[eval_ListComp]
 refine jY hcalm hi hk hg hc he hs (λs4 H3 acc C ys oC I4 ns hC hc hp q =>?_) I h
 obtain ⟨m,ns⟩:=ns
 refine ⟨m,ns,λh' sb=>⟨.ref acc,_,?_,rfl,q⟩⟩
 obtain ⟨_,n0,n1,n2,_⟩:=I4.pin (C,oC) (by simp)
 exact (I4.dD).turned (it:=C) (h':=h') (t':=s4.toks) (λb o ne e=>by rw[sb.2 b ne];exact e) n0 n1 (.inr hC) hc hp
theorem cA {elt target iter:Expr}{ifs:List Expr}{sc:Scope}{pos pos' spos:Pos}{wi:TI}{g:TG}{tc:TT}{te:TE}{i:Nat}{x:Str}(N':List Str)(ix:List (Option Nat))
    (hcalm:X.calm=true) (hN:X.N.Nodup) (hx:X.N[i]? = some x) (hl:X.env.scope.names.lookup x=some .local)
    (hi:PI X target iter wi) (hk:lJ X.env.scope.names X.N sc N' ix=true)
    (hg:∀cl C s H fp,PG (blk X sc cl C N' s H fp) target g) (hc:∀cl C s H fp,PF (blk X sc cl C N' s H fp) ifs tc) (he:∀cl C s H fp,PE (blk X sc cl C N' s H fp) elt te)
    (hsw:swapsWith (.ListComp elt [⟨target,iter,ifs,0⟩] sc pos) (some (.Name x pos')) spos.line X.env=pure true:=by rfl)
    (hs:∀x,foldedSetIterable iter X.env x=pure x:=by intro _;rfl):PS X (.Assign [.Name x pos'] (.ListComp elt [⟨target,iter,ifs,0⟩] sc pos) spos) (uB (qM ix wi g tc te) (dC i)):=by
  intro pins s σ H D I h
  rw[exec_Assign_Name_used _ _ _ _ hsw]
  refine wg (CI (wg ?_))
  show wX _ X.A (do let _ ← comprehension (.ListComp elt [⟨target,iter,ifs,0⟩] sc pos) sc X.env _ (newList []) false (eval iter X.env) (some (assign (.Name x pos') X.env))) _ _ s
  refine wg (zi (jY (Q:=λv H1=>D.nx (σ.set i (some v)) H1) (Q2:=λ_ s'=>SP X pins D .next s') hcalm hi hk hg hc he hs (λs4 H3 acc C ys oC I4 ns hC hc hp q =>?_) I h) (λ_ s' q=>wA (wA q)) λ_ _ e=>e)
  obtain ⟨m,ns⟩:=ns
  obtain ⟨e0,n0,n1,n2,_⟩:=I4.pin (C,oC) (by simp)
  show wX _ X.A (assign (.Name x pos') X.env (.ref acc)) _ _ s4
  refine thn ((aD (i:=i) hN hx (.inl hl) (.inr hl)) (pins++[(C,oC)]) s4 σ _ (.ref acc) (.ref acc) _ I4 rfl q) λ_ s5 ⟨σ5,H5,I5,q5⟩ =>?_
  obtain ⟨e5,k0,k1,k2,_⟩:=I5.pin (C,oC) (by simp)
  obtain ⟨o',es',ep',c',r'⟩:=ns
  have e':=e0.symm.trans c'
  cases e'
  refine ⟨m,⟨_,es',ep',e5,r'⟩,λh' sb=>⟨σ5,H5,?_,q5⟩⟩
  exact (I5.dD).turned (it:=C) (h':=h') (t':=s5.toks) (λb o ne e=>by rw[sb.2 b ne];exact e) k0 k1 (.inr hC) hc hp
end
open PySem PySem.Spec PyProof.Rows
section
variable  {X:Cx}
theorem kD {j:Int}(h0:0<j)(h:j<2 ^ 200):j.natAbs.log2<9000:=by
 have h1:j.natAbs<2 ^ 200:=by lia
 have h2:j.natAbs.log2<200:=(Nat.log2_lt (by lia)).mpr h1
 lia
def vT (_ j:Int):Prop:=0<j/\j<2 ^ 200
theorem kE:bL X (.builtin "divmod") (λxs H Q=>∃i j,xs=[.int i,.int j]/\vT i j/\∀p,H p=none->Q (.ref p) (upd H p (.tup [.int (i/j),.int (i%j)]))):=by
 intro pins s σ H xs us Q I r h
 obtain ⟨i,j,rfl,⟨h1,h2⟩,q⟩:=h
 obtain ⟨u,w',rfl,⟨t,rfl⟩,⟨t',rfl⟩⟩:=vals2 r
 refine divmod_int (by lia) ?_ (.inl (PyProof.noPylong_of_log2 (kD h1 h2)))
 rw[AO i (by lia),AQ i (by lia)]
 refine ⟨.ref s.heap.objs.size,_,?_,rfl,q _ I.fresh⟩
 refine I.laid (λb o e=>we _ e) (wq _) ⟨by simp only[xn,zH];rw[Dm];decide,[.int (i/j) s.toks,.int (i%j) (s.toks+1)],.cons ⟨_,rfl⟩ (.cons ⟨_,rfl⟩ .nil),?_⟩
 exact ⟨_,wH s.heap rfl,⟨rfl,rfl⟩,0,rfl⟩
def vU (K:wc):R2:=λx y H Q=>∃l b xs zs,x = .ref l/\y = .ref b/\SqL K H l xs/\SqL K H b zs/\xs.length+zs.length<=wo/\∀p,H p=none->Q (.ref p) (upd H p (.lst (xs++zs)))
theorem bY:OpR X (binaryOp .Add) (vU X.K):=by
 intro pins s σ H x y v u Q I rx ry h
 obtain ⟨l,b,xs,zs,rfl,rfl,hH,hB,hz,q⟩:=h
 cases rx
 cases ry
 obtain ⟨its,r,e,z⟩:=I.list hH
 obtain ⟨its2,r2,e2,z2⟩:=I.list hB
 obtain ⟨⟨c1,d1,da1,sl1⟩,n,e,k1,k2,k3⟩:=e
 obtain ⟨⟨c2,d2,da2,sl2⟩,n2,e2,g1,g2,g3⟩:=e2
 simp only at k1 k3 g1 g3
 subst k1 k3 g1 g3
 have l1:=r.length
 have l2:=r2.length
 have ea:its.toArray++its2.toArray=(its++its2).toArray:=by simp
 refine B4 ⟨_,e,rfl⟩ ⟨_,e2,rfl⟩ noFill_list_add seq_list_add PySem.F.slot_list_add PySem.F.entry_list_add
  (PySem.F.args_list_add_2 _ _) (list_addW l b its.toArray its2.toArray n n2 d1 d2 sl1 sl2 (by rw[wk,wk];omega)) ⟨e,e2,?_⟩
 rw[ea]
 exact ⟨.ref _,_,I.vR (t':=s.toks) (r.append r2) (by rw[wj];omega),rfl,q _ I.fresh⟩
theorem eU:bL X (.builtin "isinstance") (λxs H Q=>∃x T t b,xs=[x,.ty T]/\gO X.K H x t/\PySem.W.kitOne X.K t (.type T)=some b/\Q (.bl b) H):=by
 intro pins s σ H xs us Q I r h
 obtain ⟨x,T,t,b,rfl,ty,e,q⟩:=h
 obtain ⟨u,w',rfl,ru,rw'⟩:=vals2 r
 cases (show w'=AF T from rw')
 exact pA I ru ty e λtk=>⟨.bl b,H,I.tok tk,rfl,q⟩
end
def om (k:Nat)(tc:TT)(te:TE)(τ:St)(Pv:Nat->List V->Hp->Prop)(i:Nat)(x:V)(ys:List V)(H:Hp):Prop :=
 ∀(R1:V->Hp->Prop) (R0:Hp->Prop),(∀y H4,Pv (i+1) (ys++[y]) H4->R1 y H4)->(∀H3,Pv (i+1) ys H3->R0 H3)->tc (τ.set k (some x)) H λb H3=>if b=true then te (τ.set k (some x)) H3 R1 else R0 H3
theorem fR {K:wc}{a:Addr}{xs:List V}{k:Nat}{tc:TT}{te:TE}{τ:St}{H:Hp}{Q:VK}(Pv:Nat->List V->Hp->Prop)(h0:Pv 0 [] H)(hz:xs.length<=wo)
  (hl:∀i ys H,i<=xs.length->Pv i ys H->SqL K H a xs) (hs:∀i x ys H,xs[i]? = some x->ys.length<=i->Pv i ys H->om k tc te τ Pv i x ys H)
  (hd:∀ys H,ys.length<=xs.length->Pv xs.length ys H->∀l,H l=none->Q (.ref l) (upd H l (.lst ys))) :
  fM (Itl K a) (dC k) tc te τ Q H:=by
 refine ⟨λi m σ ys H=>m=xs.length-i/\i<=xs.length/\(∀x,σ.set k (some x)=τ.set k (some x))/\ys.length<=i/\Pv i ys H,⟨xs.length,by simp,xH _,λ_=>rfl,wq _,h0⟩,?_⟩
 rintro i m σ ys H ⟨rfl,hi,hτ,hy,p⟩
 have q:=hl i ys H hi p
 by_cases hlt:i<xs.length
 ·refine .inr ⟨⟨xs,xs[i],q,by simp[hlt]⟩,λx H' y =>?_⟩
  obtain ⟨e,y⟩:=y
  subst e
  show tc (σ.set k (some x)) _ _
  rw[hτ x]
  have hσ:∀z,(τ.set k (some x)).set k (some z)=τ.set k (some z):=λz=>by rw[AY]
  refine hs i x ys _ (y xs q) hy p _ _ (λy4 H4 p4=>⟨by lia,xs.length-(i+1),by lia,rfl,hlt,hσ,by rw[wj,xU];lia,p4⟩) λH3 p3=>⟨xs.length-(i+1),by lia,rfl,hlt,hσ,by lia,p3⟩
 ·have e:i=xs.length:=by lia
  subst e
  exact .inl ⟨⟨xs,q,wq _⟩,by lia,hd ys H hy p⟩
theorem gR {K:wc}{a:Addr}{xs:List V}{k:Nat}{tc:TT}{te:TE}{τ:St}{H:Hp}{Q:VK}(Pv:Nat->List V->Hp->Prop)(h0:Pv 0 [] H)(hz:xs.length<=wo)
  (hl:∀i ys H,i<=xs.length->Pv i ys H->SqT K H a xs) (hs:∀i x ys H,xs[i]? = some x->ys.length<=i->Pv i ys H->om k tc te τ Pv i x ys H)
  (hd:∀ys H,ys.length<=xs.length->Pv xs.length ys H->∀l,H l=none->Q (.ref l) (upd H l (.lst ys))) :
  fM (Itt K a) (dC k) tc te τ Q H:=by
 refine ⟨λi m σ ys H=>m=xs.length-i/\i<=xs.length/\(∀x,σ.set k (some x)=τ.set k (some x))/\ys.length<=i/\Pv i ys H,⟨xs.length,by simp,xH _,λ_=>rfl,wq _,h0⟩,?_⟩
 rintro i m σ ys H ⟨rfl,hi,hτ,hy,p⟩
 have q:=hl i ys H hi p
 by_cases hlt:i<xs.length
 ·refine .inr ⟨⟨xs,xs[i],q,by simp[hlt]⟩,λx H' y =>?_⟩
  obtain ⟨e,y⟩:=y
  subst e
  show tc (σ.set k (some x)) _ _
  rw[hτ x]
  have hσ:∀z,(τ.set k (some x)).set k (some z)=τ.set k (some z):=λz=>by rw[AY]
  refine hs i x ys _ (y xs q) hy p _ _ (λy4 H4 p4=>⟨by lia,xs.length-(i+1),by lia,rfl,hlt,hσ,by rw[wj,xU];lia,p4⟩) λH3 p3=>⟨xs.length-(i+1),by lia,rfl,hlt,hσ,by lia,p3⟩
 ·have e:i=xs.length:=by lia
  subst e
  exact .inl ⟨⟨xs,q,wq _⟩,by lia,hd ys H hy p⟩
theorem bI {lo:Int}{n:Nat}{k:Nat}{tc:TT}{te:TE}{τ:St}{H:Hp}{Q:VK}(Pv:Nat->List V->Hp->Prop)(h0:Pv 0 [] H)(hz:n<=wo)
  (hs:∀i ys H,i<n->ys.length<=i->Pv i ys H->om k tc te τ Pv i (.int (lo+i)) ys H)
  (hd:∀ys H,ys.length<=n->Pv n ys H->∀l,H l=none->Q (.ref l) (upd H l (.lst ys))) :
  fM (Itr lo n) (dC k) tc te τ Q H:=by
 refine ⟨λi m σ ys H=>m=n-i/\i<=n/\(∀x,σ.set k (some x)=τ.set k (some x))/\ys.length<=i/\Pv i ys H,⟨n,by simp,xH _,λ_=>rfl,wq _,h0⟩,?_⟩
 rintro i m σ ys H ⟨rfl,hi,hτ,hy,p⟩
 by_cases hlt:i<n
 ·refine .inr ⟨hlt,λx H' y =>?_⟩
  obtain ⟨e,y⟩:=y
  subst e y
  show tc (σ.set k (some (.int (lo+i)))) _ _
  rw[hτ]
  have hσ:∀z,(τ.set k (some (.int (lo+i)))).set k (some z)=τ.set k (some z):=λz=>by rw[AY]
  refine hs i ys _ hlt hy p _ _ (λy4 H4 p4=>⟨by lia,n-(i+1),by lia,rfl,hlt,hσ,by rw[wj,xU];lia,p4⟩) λH3 p3=>⟨n-(i+1),by lia,rfl,hlt,hσ,by lia,p3⟩
 ·have e:i=n:=by lia
  subst e
  exact .inl ⟨wq _,by lia,hd ys H hy p⟩
structure Cal (P:wL)(w:xg)(K:wc)(mg:Str->Option wm)(base:Heap)(k:Nat)(x:Str)(ps:List Str)(sp:Sp):Prop where
 ex:∃f fd,bF P w K mg base CX0 k f fd ps sp/\mg x=some (.ref f)/\PySem.W.keepIn K (.ref f)=true/\Binds K fd ps []
theorem aq {X:Cx}{j k:Nat}{x:Str}{ps:List Str}{sp:Sp}{e:Expr}{es:List Expr}{t:TA}{p pos:Pos}(C:Cal X.prog X.w X.K X.mg X.base k x ps sp)(hr:cy j X.A)(hj:k<=j)(hg:Gl X x)(ha:PA X (e :: es) t)
  (hdb:(x == ("__debug__" : Str))=false:=by decide) (he:xO (e :: es) X.env=(false,eval e X.env) :: xO es X.env:=by rfl) (hpl:(Bp pos (xO es X.env)).any (·.1)=false:=by rfl) :
  PE X (.Call (.Name x p) (e :: es) [] pos) (t9 sp [] E0 t):=by
 obtain ⟨f,fd,F,m,kp,b⟩:=C.ex
 exact sD F (hr.mono hj) hg m kp b .nil uc ha hdb he hpl
theorem ab {H:Hp}{p:Addr}(h:H p=none)(o:HO):aK H (upd H p o):=λb u q=>by rw[aF (aR q h)];exact q
theorem small {n:Nat}(h:n<=1000):n<=wo:=Ar (pF h)
open PySem PySem.Spec PyProof.Rows
section
variable  {X:Cx}
theorem ig {its:List wm}{bs:List Bool}(h:Vals (bs.map V.bl) its){prog:wL}{w:xg}{A:xF}:TruthOf prog w A (λi v=>its.toArray[i]? = some v) (λi=>bs.getD i false):=by
 intro i v s Q E hv q
 have l:=h.length
 rw[wd] at l
 have hi:i<its.length:=by
  rw[xC] at hv
  exact (wF.mp hv).1
 have e:(bs.map V.bl)[i]? = some (.bl (bs.getD i false)):=by
  rw[xh,wD,wz (by lia)]
  rfl
 obtain ⟨u,e1,e2⟩:=h.get e
 rw[xC,e1] at hv
 have ev:u=v:=xt hv
 subst ev
 cases (show u=Value.bool _ from e2)
 exact yh q
theorem all_range (bs:List Bool):((xE bs.length).all λi=>bs.getD i false)=bs.all id:=by
 rw[ze,yq,yq]
 constructor
 ·intro h x hx
  obtain ⟨i,e⟩:=xI.mp hx
  have hi:i<bs.length:=(wF.mp e).1
  have q:=h i (xD.mpr hi)
  rw[wD,e] at q
  exact q
 ·intro h i hi
  have hi':=xD.mp hi
  rw[wD,wz hi']
  exact h _ (yD hi')
theorem eV (hc:X.calm=true):bL X (.builtin "all") (λxs H Q=>∃(p:Addr) (bs:List Bool),xs=[.ref p]/\SqL X.K H p (bs.map V.bl)/\Q (.bl (bs.all id)) H):=by
 intro pins s σ H xs us Q I r h
 obtain ⟨p,bs,rfl,hs,q⟩:=h
 obtain ⟨u,rfl,ru⟩:=vals1 r
 cases (show u=wN p from ru)
 obtain ⟨its,rv,pl,hz⟩:=I.list hs
 have l:=rv.length
 rw[wd] at l
 have hpl:p<s.heap.objs.size:=by obtain ⟨o,_,e,_⟩:=pl;exact wJ e
 refine call_all_walk (zR pl.isList ?_)
 have hd:X.A.in1.handled=none:=I.ok.hd hc
 refine ⟨s.heap.objs.size,_,_,_,_,_,_,rfl,Dz hd s.heap.objs.size p (wV hpl) its.toArray,⟨⟨_,wH _ rfl,rfl,rfl⟩,?_⟩,ig rv,λh' tk k =>?_⟩
 ·exact pl.isList.at λo e=>we _ e
 ·have e:((xE its.toArray.size).all λi=>bs.getD i false)=bs.all id:=by rw[wk, <- l,all_range]
  rw[e]
  refine ⟨.bl (bs.all id),H,I.kept (t':=tk) (λb o eb=>k b o ?_ (we _ eb)),rfl,q⟩
  intro hb
  have:b=s.heap.objs.size:=by simpa using hb
  exact absurd (wJ eb) (by rw[this];exact xK _)
def eX (K:wc)(H:Hp):Nat->V->V->Prop
 | 0,x,y=>(∃i,x = .int i/\y = .int i)\/∃a,x = .ref a/\y = .ref a
 | n+1,x,y=>(∃i,x = .int i/\y = .int i)\/(∃a,x = .ref a/\y = .ref a)\/∃a b xs ys,x = .ref a/\y = .ref b/\((SqT K H a xs/\SqT K H b ys)\/(SqL K H a xs/\SqL K H b ys))/\Paired (eX K H n) xs ys
theorem gS {α β:Type}{F:α -> β -> Prop}:∀{l:List α} {m:List β} {i:Nat} {x:α} {y:β},Paired F l m->l[i]? = some x->m[i]? = some y->F x y
 | _,_,0,_,_,.cons h _,e1,e2=>by simp at e1 e2;subst e1 e2;exact h
 | _,_,i+1,_,_,.cons _ t,e1,e2=>gS (i:=i) t (by simpa using e1) (by simpa using e2)
 | _,_,_,_,_,.nil,e1,_=>by simp at e1
theorem all_true (n:Nat):((xE n).all λ_=>true)=true:=by simp
theorem cO {K:wc}{H:Hp}{n:Nat}{s:wu}{A:xF}{xs ys:List V}{us vs:List wm}(p:Paired (eX K H n) xs ys)(r1:Vals xs us)(r2:Vals ys vs)
  (ih:∀x y u v,eX K H n x y->RelV x u->RelV y v->zk A s u v true):∀j (h1:j<us.toArray.size) (h2:j<vs.toArray.size),zk A s us.toArray[j] vs.toArray[j] true:=λj h1 h2=>by
 rw[wk] at h1 h2
 have l1:=r1.length
 have l2:=r2.length
 have e1:xs[j]? = some xs[j]:=wz (by omega)
 have e2:ys[j]? = some ys[j]:=wz (by omega)
 obtain ⟨u,g1,q1⟩:=r1.get e1
 obtain ⟨v,g2,q2⟩:=r2.get e2
 have f1:us.toArray[j]=u:=by simp[wF] at g1;obtain ⟨_,g⟩:=g1;simpa using g
 have f2:vs.toArray[j]=v:=by simp[wF] at g2;obtain ⟨_,g⟩:=g2;simpa using g
 rw[f1,f2]
 exact ih _ _ u v (gS p e1 e2) q1 q2
theorem gT {pins:List (Addr×Obj)}{σ:St}{H:Hp}{s:wu}(I:Inv X pins σ H s):∀(n:Nat) (A:xF) (x y:V) (u v:wm),A.units+n<cLine->eX X.K H n x y->RelV x u->RelV y v->zk A s u v true
 | 0,A,x,y,u,v,_,h,ru,rv=>by
  rcases h with ⟨i,rfl,rfl⟩ | ⟨a,rfl,rfl⟩
  ·obtain ⟨t,rfl⟩:=(show ∃t,u=xZ i t from ru)
   obtain ⟨t',rfl⟩:=(show ∃t,v=xZ i t from rv)
   have:=zC (A:=A) (s:=s) i t i t'
   rw[beq_self_eq_true] at this
   exact this
  ·cases (show u=wN a from ru)
   cases (show v=wN a from rv)
   exact zG _
 | n+1,A,x,y,u,v,hA,h,ru,rv=>by
  rcases h with ⟨i,rfl,rfl⟩ | ⟨a,rfl,rfl⟩ | ⟨a,b,xs,ys,rfl,rfl,hs,p⟩
  ·obtain ⟨t,rfl⟩:=(show ∃t,u=xZ i t from ru)
   obtain ⟨t',rfl⟩:=(show ∃t,v=xZ i t from rv)
   have:=zC (A:=A) (s:=s) i t i t'
   rw[beq_self_eq_true] at this
   exact this
  ·cases (show u=wN a from ru)
   cases (show v=wN a from rv)
   exact zG _
  ·cases (show u=wN a from ru)
   cases (show v=wN b from rv)
   by_cases hab:a=b
   ·subst hab;exact zG _
   refine Cw hab ?_
   have ih:∀x y u v,eX X.K H n x y->RelV x u->RelV y v->zk A.in1 s u v true:=λx y u v h1 h2 h3=>gT I n A.in1 x y u v (by show A.units+1+n<cLine;lia) h1 h2 h3
   have pl:=zq p
   rcases hs with ⟨h1,h2⟩ | ⟨h1,h2⟩
   ·obtain ⟨its,r1,p1,_⟩:=I.tuple h1
    obtain ⟨its2,r2,p2,_⟩:=I.tuple h2
    have q:=CT (e:=λ_=>true) (show s.heap.IsTuple a its.toArray from p1) (show s.heap.IsTuple b its2.toArray from p2) (by lia) (cO p r1 r2 ih)
    have ez:its.toArray.size=its2.toArray.size:=by rw[wk,wk, <- r1.length, <- r2.length,pl]
    rw[all_true,ez,beq_self_eq_true] at q
    exact q
   ·obtain ⟨its,r1,p1,_⟩:=I.list h1
    obtain ⟨its2,r2,p2,_⟩:=I.list h2
    have q:=Av (e:=λ_=>true) p1.isList p2.isList (by rw[wk,wk, <- r1.length, <- r2.length,pl]) (by lia) (cO p r1 r2 ih)
    rw[all_true] at q
    exact q
end
open PySem PySem.Spec PyProof.Rows
def ue (K:wc)(k l:Nat):TG:=vz K 2 (qz (dC k) (qz (dC l) vy))
def vV (k l:Nat)(tc:TT)(te:TE)(τ:St)(Pv:Nat->List V->Hp->Prop)(i:Nat)(a b:V)(ys:List V)(H:Hp):Prop :=
 ∀(R1:V->Hp->Prop) (R0:Hp->Prop),(∀y H4,Pv (i+1) (ys++[y]) H4->R1 y H4)->(∀H3,Pv (i+1) ys H3->R0 H3)->tc ((τ.set k (some a)).set l (some b)) H λc H3=>if c=true then te ((τ.set k (some a)).set l (some b)) H3 R1 else R0 H3
theorem mX {K:wc}{p:Addr}{ts:List (Addr×V×V)}{k l:Nat}{tc:TT}{te:TE}{τ:St}{H:Hp}{Q:VK}(Pv:Nat->List V->Hp->Prop)(hkl:k≠l)(h0:Pv 0 [] H)(hz:ts.length<=wo)
  (hl:∀i ys H,i<=ts.length->Pv i ys H->SqL K H p (ts.map λt =>.ref t.1)/\∀t∈ts,SqT K H t.1 [t.2.1,t.2.2])
  (hs:∀i t ys H,ts[i]? = some t->ys.length<=i->Pv i ys H->vV k l tc te τ Pv i t.2.1 t.2.2 ys H)
  (hd:∀ys H,ys.length<=ts.length->Pv ts.length ys H->∀r,H r=none->Q (.ref r) (upd H r (.lst ys))):fM (Itl K p) (ue K k l) tc te τ Q H:=by
 refine ⟨λi m σ ys H=>m=ts.length-i/\i<=ts.length/\(∀a b,(σ.set k (some a)).set l (some b)=(τ.set k (some a)).set l (some b))/\ys.length<=i/\Pv i ys H,⟨ts.length,by simp,xH _,λ_ _=>rfl,wq _,h0⟩,?_⟩
 rintro i m σ ys H ⟨rfl,hi,hτ,hy,pv⟩
 obtain ⟨q,qt⟩:=hl i ys H hi pv
 have ln:(ts.map λt:Addr×V×V=>V.ref t.1).length=ts.length:=wd _
 by_cases hlt:i<ts.length
 ·have et:ts[i]? = some ts[i]:=wz hlt
  have em:(ts.map λt:Addr×V×V=>V.ref t.1)[i]? = some (.ref ts[i].1):=by rw[xh,et];rfl
  refine .inr ⟨⟨_,_,q,em⟩,λx H' y =>?_⟩
  obtain ⟨e,y⟩:=y
  subst e
  have ex:=y _ q
  rw[em] at ex
  cases ex
  have st:=qt ts[i] (yD hlt)
  refine ⟨ts[i].1,_,rfl,st,rfl,_,_,rfl,_,_,rfl,rfl,?_⟩
  rw[hτ]
  have hσ:∀a b,((((τ.set k (some ts[i].2.1)).set l (some ts[i].2.2)).set k (some a)).set l (some b))=(τ.set k (some a)).set l (some b):=λa b=>by
   rw[List.set_comm _ _ (zF hkl),AY,AY]
  refine hs i ts[i] ys _ et hy pv _ _ (λy4 H4 p4=>⟨by lia,ts.length-(i+1),by lia,rfl,hlt,hσ,by rw[wj,xU];lia,p4⟩) λH3 p3=>⟨ts.length-(i+1),by lia,rfl,hlt,hσ,by lia,p3⟩
 ·have e:i=ts.length:=by lia
  subst e
  exact .inl ⟨⟨_,q,by rw[ln];exact wq _⟩,by lia,hd ys H hy pv⟩
open PySem PySem.Spec PyProof.Rows
section
variable  {X:Cx}{K:wc}
theorem lK (h:X.K=K:=by rfl):IxR X (vO K):=by subst h;exact bC
theorem kF (h:X.K=K:=by rfl):IxR X (vP K):=by subst h;exact av
theorem eZ (h:X.K=K:=by rfl):OpR X (xY .In) (rIn K false):=by subst h;exact gP
theorem fA (h:X.K=K:=by rfl):OpR X (xY .NotIn) (rIn K true):=by subst h;exact bX
end
open PySem PySem.Spec PyProof.Rows
theorem Inv.iY {X:Cx}{pins:List (Addr×Obj)}{σ:St}{H:Hp}{s:wu}{h':Heap}{t':Nat}{ch:List Addr}{T:Addr}{o:HO}(I:Inv X pins σ H s)(f:∀b∈ch,iw X pins H b)
  (k:∀b ob,b∉ch->s.heap.get? b=some ob->h'.get? b=some ob) (th:∀b∈ch,∃ob,h'.get? b=some ob) (hT:s.heap.objs.size<=T) (new:bG X.prog X.w (upd H T o) h' T o):Inv X pins σ (upd H T o) { s with heap:=h',toks:=t' }:=by
 have hn:H T=none:=I.hok.fresh hT
 have nT:∀b ob,s.heap.get? b=some ob->b≠T:=λb ob e=>wV (wO (wJ e) hT)
 refine I.step (g':=s.gens) (d':=s.drawn) (ch:=ch) (λb hb =>?_) (λb ob _ _ hc e _=>k b ob hc e) (λb ob _ _ hc e _=>⟨ob.slots,k b ob hc e⟩) (λb ob _ e n=>by rw[aF (nT b ob e)];exact n)
  (λb ob hc e=>⟨ob,k b ob hc e⟩) (λb xs e=>by rw[aF (aR e hn)];exact e) (λb ob u e=>by rw[aF (aR e hn)];exact e) (λb ps e=>⟨#[],by rw[aF (aR e hn),e];simp⟩) (λm hm =>?_) (λb u e =>?_) I.bare
 ·obtain ⟨g0,g1,g2,g3,g4,g5⟩:=f b hb
  exact ⟨g3,g1,g4,g5⟩
 ·obtain ⟨ob,es,ep,ho,r⟩:=hm
  exact ⟨ob,es,ep,k _ ob (λz=>(f _ z).2.1 rfl) ho,r⟩
 ·by_cases hb:b=T
  ·subst hb
   rw[ae] at e
   cases e
   exact new
  ·rw[aF hb] at e
   refine (I.hok b u e).mL (λc v hc q=>k c v ?_ q) (λc q=>by rw[aF (aR q hn)];exact q) λc xs q=>by rw[aF (aR q hn)];exact q
   intro z
   have n0:=(f c z).1
   rcases hc with hc | hc
   ·rw[hc,e] at n0;cases n0
   ·rw[hc] at n0;cases n0
def Ite (K:wc)(a:Addr):It :=
 ⟨λi H=>∃xs v,SqL K H a xs/\xs[i]? = some v,λi H x H'=>∃T v,H T=none/\x = .ref T/\H'=upd H T (.tup [.int i,v])/\∀xs,SqL K H a xs->xs[i]? = some v,λi H=>∃xs,SqL K H a xs/\xs.length<=i⟩
theorem pG {P:wL}{w:xg}{K:wc}{elts:List Expr}{k:Nat}{pos:Pos}(a e it:Addr)(hne:e≠it):Turn P w K (.Tuple elts k pos) (Ite K a) [e,it] e (λi h=>(∃old,IsEnum h e it i old)/\h.IsListIter it a i) where
 mem:=by simp
 obj:=λi h ⟨⟨old,h1⟩,h2⟩ b hb=>by
  rcases wZ.mp hb with q | q
  ·subst q
   exact ⟨_,h1,λv z=>nomatch z⟩
  ·have q':b=it:=by simpa using q
   subst q'
   obtain ⟨o,ho,_,hd⟩:=h2
   exact ⟨o,ho,λv z=>by rw[hd] at z;cases z⟩
 keep:=λi h h' ⟨⟨old,h1⟩,h2⟩ kp=>⟨⟨old,kp e (by simp) _ h1⟩,h2.at λo x=>kp it (by simp) o x⟩
 item:=λX eP eW eK hcalm i pins s σ H E I f ⟨⟨old,h1⟩,h2⟩ go=>by
  subst eP eW eK
  obtain ⟨xs,v,hs,hv⟩:=go
  obtain ⟨its,r,pl,hz⟩:=I.list hs
  obtain ⟨u,eu,ru⟩:=r.get hv
  refine wpAny_pyNext_enum_item h1 h2 pl.isList (x:=u) (by rw[xC];exact eu) hne λh' o1 o2 o3 o4 kp =>?_
  refine ⟨_,rfl,?_⟩
  refine AV o1 λh2' e2 sb =>?_
  have eT:e≠s.heap.objs.size:=wV (wJ h1)
  have kp2:∀b ob,b∉[e,it]->s.heap.get? b=some ob->h2'.get? b=some ob:=λb ob hb eb=>by
   have n1:b≠e:=λz=>hb (by simp[z])
   have n2:b≠it:=λz=>hb (by simp[z])
   rw[sb.2 b n1]
   exact kp b ob n1 n2 eb
  have li:h2'.IsListIter it a (i+1):=o2.at λob eb=>by rw[sb.2 it (zF hne)];exact eb
  have tp:h2'.get? s.heap.objs.size=some { cls :=.type "tuple",data :=.seq #[.int i s.toks,u] }:=by rw[sb.2 _ (zF eT)];exact o3
  refine ⟨.ref s.heap.objs.size,upd H s.heap.objs.size (.tup [.int i,v]),I.iY (ch:=[e,it]) f kp2 (λb hb =>?_) (wq _) ?_,rfl,⟨s.heap.objs.size,v,I.hok.fresh (wq _),rfl,rfl,λys hy =>?_⟩,⟨⟨_,e2⟩,li⟩,λb hb =>?_⟩
  ·rcases wZ.mp hb with q | q
   ·subst q;exact ⟨_,e2⟩
   ·have q':b=it:=by simpa using q
    subst q'
    obtain ⟨ob,ho,_⟩:=li
    exact ⟨ob,ho⟩
  ·refine ⟨(by show 2<=wo;decide),[.int i s.toks,u],.cons ⟨_,rfl⟩ (.cons ru .nil),_,tp,⟨rfl,rfl⟩,_,rfl⟩
  ·rw[I.iP hy hs];exact hv
  ·have ne:b≠s.heap.objs.size:=by
    rcases wZ.mp hb with q | q
    ·rw[q];exact eT
    ·have q':b=it:=by simpa using q
     rw[q']
     obtain ⟨ob,ho,_⟩:=h2
     exact wV (wJ ho)
   rw[aF ne]
   exact (f b hb).1
 done:=λX eP eW eK hcalm i pins s σ H E I f ⟨⟨old,h1⟩,h2⟩ stop=>by
  subst eP eW eK
  obtain ⟨xs,hs,hl⟩:=stop
  obtain ⟨its,r,pl,hz⟩:=I.list hs
  have l:=r.length
  refine wpAny_pyNext_enum_end (I.ok.hd hcalm) h1 h2 pl.isList (by rw[xC];exact A7.mpr (by lia)) λh' ex=>⟨rfl,?_⟩
  obtain ⟨g0,g1,g2,g3,g4,g5⟩:=f it (by simp)
  exact I.turned (it:=it) (h':=h') (t':=s.toks) (λb o ne eb=>ex b o ne eb) g0 g1 g3 g4 g5
 self:=λA i s Q E ⟨⟨old,h1⟩,_⟩ q=>by
  refine C2 ⟨_,h1,rfl⟩ zI (yt zI ⟨_,h1,rfl⟩ BG ?_ (Br _))
  show wX _ _ (ret (.ref e)) _ _ s
  exact wA ⟨_,rfl, "enumerate",_,⟨_,h1,rfl⟩,zJ.lookup,q⟩
open PySem PySem.Spec PyProof.Rows
open PySem.AutoSeq1 (wpAny_loadPart')
section
variable  {prog:wL}{w:xg}{A:xF}{E:wm->wu->Prop}{s:wu}
theorem mY {it t:Addr}{i:Nat}{items:Array wm}{x:wm}{Q:wm->wu->Prop}(hi:s.heap.IsTupleIter it t i)(hl:s.heap.IsTuple t items)(hx:items[i]? = some x)
  (q:∀h',h'.IsTupleIter it t (i+1)->Heap.SameBut it s.heap h'->Q x { s with heap:=h' }):wX (xk prog w) A (Builtin.SmallTypes.nextOf (.ref it)) Q E s:=by
 obtain ⟨o,eo,oc,od⟩:=id hi
 obtain ⟨ol,el,_,nl,dl⟩:=hl
 unfold Builtin.SmallTypes.nextOf
 refine wg (yC (name:=Str.ofString "__next__") hi.typeIs y3 (yt y3 hi.typeIs AH ?_ (AD _)))
 show wX _ _ (field (.ref it) 0 >>= _) _ _ s;refine wg (zc eo od (x :=.ref t) rfl ?_)
 show wX _ _ (if (wN t == yW)=true then _ else _) _ _ s;rw[if_neg (show ¬ ((wN t == yW)=true) from wG)]
 show wX _ _ (field (.ref it) 1 >>= _) _ _ s;refine wg (zc eo od (x :=.int i 0) rfl ?_)
 show wX _ _ (seqItems? (.ref t) >>= _) _ _ s;refine wg (Aq el dl ?_)
 simp only[CU,hx];refine wg (wpAny_setField eo od (by simp) (wA ⟨x,rfl,wA (q _ ?_ (AI ..))⟩))
 exact ⟨_,y8 _ eo (Obj.isFreed_of_fields (Cy od _)),(Obj.cls_mapFields ..).trans oc,by rw[Cy od];simp[DE]⟩
theorem e7 {it t:Addr}{i:Nat}{items:Array wm}{Q:wm->wu->Prop}(hh:A.handled=none)(hi:s.heap.IsTupleIter it t i)(hl:s.heap.IsTuple t items)(hx:items[i]? = none)
  (q:∀h' e,Heap.ExtBut it s.heap h'->(∃o,h'.get? e=some o/\o.cls = .type "StopIteration")->E (.ref e) { s with heap:=h' }):wX (xk prog w) A (Builtin.SmallTypes.nextOf (.ref it)) Q E s:=by
 obtain ⟨o,eo,oc,od⟩:=id hi
 obtain ⟨ol,el,_,nl,dl⟩:=hl
 unfold Builtin.SmallTypes.nextOf
 refine wg (yC (name:=Str.ofString "__next__") hi.typeIs y3 (yt y3 hi.typeIs AH ?_ (AD _)))
 show wX _ _ (field (.ref it) 0 >>= _) _ _ s;refine wg (zc eo od (x :=.ref t) rfl ?_)
 show wX _ _ (if (wN t == yW)=true then _ else _) _ _ s;rw[if_neg (show ¬ ((wN t == yW)=true) from wG)]
 show wX _ _ (field (.ref it) 1 >>= _) _ _ s;refine wg (zc eo od (x :=.int i 0) rfl ?_)
 show wX _ _ (seqItems? (.ref t) >>= _) _ _ s;refine wg (Aq el dl ?_)
 simp only[CU,hx];refine wg (zS (wg (wpAny_setField eo od (by simp) ?_)))
 show wX _ _ (newExc (.type "StopIteration") [] >>= _) _ _ _;refine wg ?_
 simp only[newExc,newTuple];refine wg (xG ?_ (by size_fits))
 refine wg (m:=firstArgMember _ _) (Dp (a:=yW) (by first | rfl | (simp only[firstArgMember];rfl)) ?_);refine xG ?_ (by size_fits)
 simp only[raiseNew];refine wg (wpAny_handled ?_)
 first | (rw[show A.in1.handled=none from hh]) | (rw[hh])
 refine wg (wA (wpAny_throw ?_));exact q _ _ (((AI ..).extBut.push _).push _) ⟨_,wH _ rfl,rfl⟩
theorem pH (hh:A.handled=none)(it l:Addr)(hne:l≠it)(items:Array wm) :
  Draws prog w A it [it,l] items.size (λi v=>items[i]? = some v) (λi h=>h.IsTupleIter it l i/\h.IsTuple l items) where
 live:=λ_ _ st=>by obtain ⟨o,ho,_⟩:=st.1;exact ⟨o,ho⟩
 frame:=λ_ _ _ st hk=>⟨st.1.at λo e=>hk it (by simp) o e,by obtain ⟨o,e,r⟩:=st.2;exact ⟨o,hk l (by simp) o e,r⟩⟩
 item:=λi s Q E hi st hQ=>by
  refine mY st.1 st.2 (x:=items[i]) (by simp[hi]) λh' hit' hs' =>?_
  obtain ⟨o,e,r⟩:=st.2
  exact hQ _ h' s.toks (by simp[hi]) ⟨hit',o,by rw[hs'.2 l hne];exact e,r⟩ hs'
 done:=λs Q E st hE=>e7 hh st.1 st.2 (by simp) hE
theorem kG (l:Addr)(items:Array wm)(n:Nat)(dct:Option Addr)(sl:Array (Option wm)) :
  Meets (Builtin.«enumerate.__new__» ⟨[.type "enumerate",.ref l],[]⟩) (λ_ R s=>s.heap.get? l=some { cls :=.type "tuple",dict:=dct,data :=.seq items n,slots:=sl } ∧
   R (.ok (.ret (.ref (s.heap.push { cls :=.type "tuple_iterator",data :=.fields #[.ref l,.int 0 0] }).objs.size)))
    { s with heap:=(s.heap.push { cls :=.type "tuple_iterator",data :=.fields #[.ref l,.int 0 0] }).push { cls :=.type "enumerate",data :=.fields #[.none,.bool false,.ref s.heap.objs.size,DE 0,.none,.none] } }) :=
 .of_wp λprog w A R s h=>by
  obtain ⟨hp,g,d,tk,os⟩:=s;obtain ⟨hl,h⟩:=h
  have hsub:=sub_enumerate
  have hT:Heap.IsTuple (Shared.heap ⟨hp,g,d,tk,os⟩) l items:=⟨_,hl,rfl,n,rfl⟩
  wp_walk using wpAny_loadPart' hl
  refine wpAny_stack_any λst=>wA ?_
  split
  ·rename_i c _ _ _ _ _
   cases (c == AF "enumerate") <;> (wp_walk using wpAny_loadPart' hl,yB hT;exact ⟨_,rfl,h⟩)
  ·wp_walk using wpAny_loadPart' hl,yB hT;exact ⟨_,rfl,h⟩
theorem jF {l:Addr}{items:Array wm}{Q:wm->wu->Prop}(hL:s.heap.IsTuple l items)
  (h:∀h',IsEnum h' (s.heap.objs.size+1) s.heap.objs.size 0 .none->h'.IsTupleIter s.heap.objs.size l 0->h'.objs.size=s.heap.objs.size+2->(∀b o,s.heap.get? b=some o->h'.get? b=some o)->Q (.ref (s.heap.objs.size+1)) { s with heap:=h' }) :
  wX (xk prog w) A (call (.type "enumerate") [.ref l]) Q E s:=by
 obtain ⟨⟨c,dct,dt,sl⟩,hl,hc,n,hd⟩:=hL
 replace hc:c = .type "tuple" := hc
 replace hd:dt = .seq items n:=hd
 subst hc hd
 refine callType_new F.called_enumerate (by decide) (F.typeCall_enumerate_1 _) (F.newCall_enumerate_1 _) (λobj=>F.args_object_init_2 obj _) F.entry_enumerate_new (kG l items n dct sl) ⟨hl,?_⟩
 have hz:(s.heap.push { cls :=.type "tuple_iterator",data :=.fields #[.ref l,.int 0 0] }).objs.size=s.heap.objs.size+1:=yR ..
 show _/\_
 rw[hz]
 have he:IsEnum ((s.heap.push { cls :=.type "tuple_iterator",data :=.fields #[.ref l,.int 0 0] }).push { cls :=.type "enumerate",data :=.fields #[.none,.bool false,.ref s.heap.objs.size,DE 0,.none,.none] }) (s.heap.objs.size+1) s.heap.objs.size 0 .none:=by
  have:=wH (s.heap.push { cls :=.type "tuple_iterator",data :=.fields #[.ref l,.int 0 0] }) (o:={ cls :=.type "enumerate",data :=.fields #[.none,.bool false,.ref s.heap.objs.size,DE 0,.none,.none] }) rfl
  rw[hz] at this;exact this
 exact ⟨⟨_,he,rfl⟩,h _ he ⟨_,we _ (wH _ rfl),rfl,rfl⟩ (by rw[yR,hz]) λb o x=>we _ (we _ x)⟩
end
theorem dQ {prog:wL}{w:xg}{A:xF}{E:wm->wu->Prop}{s:wu}{e it t:Addr}{i:Nat}{items:Array wm}{old:wm}{Q:Option wm->wu->Prop}(hh:A.in1.handled=none)(he:IsEnum s.heap e it i old)(hi:s.heap.IsTupleIter it t i)
  (hl:s.heap.IsTuple t items) (hx:items[i]? = none) (q:∀h',Heap.ExtBut it s.heap h'->Q none { s with heap:=h' }):wX (xk prog w) A (pyNext (.ref e)) Q E s:=by
 have hT:s.TypeIs (.ref e) "enumerate" :=⟨_,he,rfl⟩
 unfold pyNext
 refine wg (wpAny_attempt (yC (name:=Str.ofString "__next__") hT zJ (yt zJ hT F.entry_enumerate_next ?_ (F.args_enumerate_next_1 _))))
 show wX _ _ (field (.ref e) 2 >>= _) _ _ _;refine wg (zc he rfl (x :=.ref it) rfl ?_)
 refine wg (e7 hh hi hl hx λh' x he' hx' =>?_)
 obtain ⟨o,ho,hc⟩:=hx'
 refine wg (wpAny_isInstance (T := "StopIteration") (b:=true) ⟨o,ho,hc⟩ isSubtype_stop ?_);exact wA (q _ he')
def ItE (K:wc)(a:Addr):It :=
 ⟨λi H=>∃xs v,SqT K H a xs/\xs[i]? = some v,λi H x H'=>∃T v,H T=none/\x = .ref T/\H'=upd H T (.tup [.int i,v])/\∀xs,SqT K H a xs->xs[i]? = some v,λi H=>∃xs,SqT K H a xs/\xs.length<=i⟩
theorem mZ {P:wL}{w:xg}{K:wc}{elts:List Expr}{k:Nat}{pos:Pos}(a e it:Addr)(hne:e≠it)(hai:a≠it)(hae:a≠e):Turn P w K (.Tuple elts k pos) (ItE K a) [e,it] e (λi h=>(∃old,IsEnum h e it i old)/\h.IsTupleIter it a i) where
 mem:=by simp
 obj:=λi h ⟨⟨old,h1⟩,h2⟩ b hb=>by
  rcases wZ.mp hb with q | q
  ·subst q
   exact ⟨_,h1,λv z=>nomatch z⟩
  ·have q':b=it:=by simpa using q
   subst q'
   obtain ⟨o,ho,_,hd⟩:=h2
   exact ⟨o,ho,λv z=>by rw[hd] at z;cases z⟩
 keep:=λi h h' ⟨⟨old,h1⟩,h2⟩ kp=>⟨⟨old,kp e (by simp) _ h1⟩,h2.at λo x=>kp it (by simp) o x⟩
 item:=λX eP eW eK hcalm i pins s σ H E I f ⟨⟨old,h1⟩,h2⟩ go=>by
  subst eP eW eK
  obtain ⟨xs,v,hs,hv⟩:=go
  obtain ⟨its,r,pl,hz⟩:=I.tuple hs
  obtain ⟨u,eu,ru⟩:=r.get hv
  have hi:i<its.toArray.size:=by rw[wk];exact (wF.mp eu).1
  have hd:X.A.in1.handled=none:=I.ok.hd hcalm
  refine wpAny_pyNext_enum_itemD (pH hd it a hai its.toArray) h1 ⟨h2,(show s.heap.IsTuple a its.toArray from pl)⟩ hi hne (by simp[hne,zF hae]) λx h' tk px o1 o2 o3 o4 kp =>?_
  rw[xC,eu] at px
  have px':u=x:=xt px
  subst px'
  refine ⟨_,rfl,?_⟩
  refine AV o1 λh2' e2 sb =>?_
  have eT:e≠s.heap.objs.size:=wV (wJ h1)
  have kp2:∀b ob,b∉[e,it]->s.heap.get? b=some ob->h2'.get? b=some ob:=λb ob hb eb=>by
   have n1:b≠e:=λz=>hb (by simp[z])
   have n2:b≠it:=λz=>hb (by simp[z])
   rw[sb.2 b n1]
   exact kp b ob n1 n2 eb
  have li:h2'.IsTupleIter it a (i+1):=o2.1.at λob eb=>by rw[sb.2 it (zF hne)];exact eb
  have tp:h2'.get? s.heap.objs.size=some { cls :=.type "tuple",data :=.seq #[.int i tk,u] }:=by rw[sb.2 _ (zF eT)];exact o3
  refine ⟨.ref s.heap.objs.size,upd H s.heap.objs.size (.tup [.int i,v]),I.iY (ch:=[e,it]) f kp2 (λb hb =>?_) (wq _) ?_,rfl,⟨s.heap.objs.size,v,I.hok.fresh (wq _),rfl,rfl,λys hy =>?_⟩,⟨⟨_,e2⟩,li⟩,λb hb =>?_⟩
  ·rcases wZ.mp hb with q | q
   ·subst q;exact ⟨_,e2⟩
   ·have q':b=it:=by simpa using q
    subst q'
    obtain ⟨ob,ho,_⟩:=li
    exact ⟨ob,ho⟩
  ·refine ⟨(by show 2<=wo;decide),[.int i tk,u],.cons ⟨_,rfl⟩ (.cons ru .nil),_,tp,⟨rfl,rfl⟩,_,rfl⟩
  ·rw[I.gJ hy hs];exact hv
  ·have ne:b≠s.heap.objs.size:=by
    rcases wZ.mp hb with q | q
    ·rw[q];exact eT
    ·have q':b=it:=by simpa using q
     rw[q']
     obtain ⟨ob,ho,_⟩:=h2
     exact wV (wJ ho)
   rw[aF ne]
   exact (f b hb).1
 done:=λX eP eW eK hcalm i pins s σ H E I f ⟨⟨old,h1⟩,h2⟩ stop=>by
  subst eP eW eK
  obtain ⟨xs,hs,hl⟩:=stop
  obtain ⟨its,r,pl,hz⟩:=I.tuple hs
  have l:=r.length
  have hd:X.A.in1.handled=none:=I.ok.hd hcalm
  refine dQ (A:=X.A) hd h1 h2 (show s.heap.IsTuple a its.toArray from pl) (by rw[xC];exact A7.mpr (by lia)) λh' ex=>⟨rfl,?_⟩
  obtain ⟨g0,g1,g2,g3,g4,g5⟩:=f it (by simp)
  exact I.turned (it:=it) (h':=h') (t':=s.toks) (λb o ne eb=>ex b o ne eb) g0 g1 g3 g4 g5
 self:=λA i s Q E ⟨⟨old,h1⟩,_⟩ q=>by
  refine C2 ⟨_,h1,rfl⟩ zI (yt zI ⟨_,h1,rfl⟩ BG ?_ (Br _))
  show wX _ _ (ret (.ref e)) _ _ s
  exact wA ⟨_,rfl, "enumerate",_,⟨_,h1,rfl⟩,zJ.lookup,q⟩
open PySem PySem.Spec PyProof.Rows
def vW (K:wc)(ta:TA):TI:=λσ H R=>ta σ H λvs H1=>∃a,vs=[.ref a]/\(((∃xs,SqL K H1 a xs)/\R (Ite K a) H1)\/((∃xs,SqT K H1 a xs)/\R (ItE K a) H1))
section
variable  {X:Cx}
theorem sO {a:Expr}{ta:TA}{p pos pos':Pos}{elts:List Expr}{k:Nat}(hg:Gl X "enumerate")(hm:X.mg "enumerate" = none)(ha:PA X [a] ta)(hs:xO [a] X.env=[(false,eval a X.env)]:=by rfl) :
  PI X (.Tuple elts k pos') (.Call (.Name "enumerate" p) [a] [] pos) (vW X.K ta):=by
 intro pins s σ H R I h
 refine Call_ (fO I hg hm boot_enumerate (yw (thn (ha pos pins s σ H _ I h) λus s1 ⟨vs,H1,I1,r1,q1⟩ =>?_) hs rfl))
 obtain ⟨l,e,q1⟩:=q1
 subst e
 obtain ⟨u,rfl,ru⟩:=vals1 r1
 cases (show u=wN l from ru)
 have fp:∀b∈[s1.heap.objs.size+1,s1.heap.objs.size],iw X pins H1 b:=λb hb=>by
  have ge:s1.heap.objs.size<=b:=by
   rcases wZ.mp hb with q | q
   ·rw[q];exact Bq _
   ·have q':b=s1.heap.objs.size:=by simpa using q
    rw[q'];exact wq _
  exact I1.ph ge (I1.hok.fresh ge)
 have ne:s1.heap.objs.size+1≠s1.heap.objs.size:=y7 (yr _)
 rcases q1 with ⟨⟨xs,hq⟩,q⟩ | ⟨⟨xs,hq⟩,q⟩
 ·obtain ⟨its,rv,pl,hz⟩:=I1.list hq
  refine call_enumerate_list pl.isList λh' he li _ kp =>?_
  have T:=pG (P:=X.prog) (w:=X.w) (K:=X.K) (elts:=elts) (k:=k) (pos:=pos') l _ _ ne
  refine T.self _ 0 _ _ _ ⟨⟨_,he⟩,li⟩ ?_
  exact ⟨_,_,_,_,H1,rfl,I1.kept (t':=s1.toks) kp,T,⟨⟨_,he⟩,li⟩,fp,q⟩
 ·obtain ⟨its,rv,pl,hz⟩:=I1.tuple hq
  have lt:l<s1.heap.objs.size:=by obtain ⟨o,e,_⟩:=pl;exact wJ e
  refine jF (show s1.heap.IsTuple l its.toArray from pl) λh' he li _ kp =>?_
  have T:=mZ (P:=X.prog) (w:=X.w) (K:=X.K) (elts:=elts) (k:=k) (pos:=pos') l _ _ ne (wV lt) (wV (x6 lt))
  refine T.self _ 0 _ _ _ ⟨⟨_,he⟩,li⟩ ?_
  exact ⟨_,_,_,_,H1,rfl,I1.kept (t':=s1.toks) kp,T,⟨⟨_,he⟩,li⟩,fp,q⟩
end
def qN (J:It)(g:TG)(tb:TS)(D:Ends)(σ:St)(H:Hp):Prop:=∃W:Nat->Nat->St->Hp->Prop,(∃m,W 0 m σ H)/\∀i m σ H,W i m σ H →
 (J.stop i H/\D.nx σ H)\/(J.go i H/\∃N:St->Hp->Prop,(∀σ' H',N σ' H'->∃m',m'<m/\W (i+1) m' σ' H')/\∀x H',J.yld i H x H'->g x σ H' λσ2 H2=>tb { D with nx:=N,ct:=N,bk:=D.nx } σ2 H2)
theorem vn {K:wc}{a:Addr}{xs:List V}{g:TG}{tb:TS}{D:Ends}{σ:St}{H:Hp}(Pv:Nat->St->Hp->Prop)(h0:Pv 0 σ H)(hl:∀i σ H,i<=xs.length->Pv i σ H->SqL K H a xs)
  (hs:∀i x σ H T,xs[i]? = some x->H T=none->Pv i σ H->g (.ref T) σ (upd H T (.tup [.int i,x])) λσ2 H2=>tb { D with nx:=Pv (i+1),ct:=Pv (i+1),bk:=D.nx } σ2 H2) (hd:∀σ H,Pv xs.length σ H->D.nx σ H):qN (Ite K a) g tb D σ H:=by
 refine ⟨λi m σ H=>m=xs.length-i/\i<=xs.length/\Pv i σ H,⟨xs.length,by simp,xH _,h0⟩,?_⟩
 rintro i m σ H ⟨rfl,hi,p⟩
 have q:=hl i σ H hi p
 by_cases hlt:i<xs.length
 ·refine .inr ⟨⟨xs,xs[i],q,by simp[hlt]⟩,Pv (i+1),λσ' H' p'=>⟨xs.length-(i+1),by lia,rfl,hlt,p'⟩,λx H' y =>?_⟩
  obtain ⟨T,v,hT,ex,eH,hv⟩:=y
  subst ex eH
  exact hs i v σ H T (hv xs q) hT p
 ·have e:i=xs.length:=by lia
  subst e
  exact .inl ⟨⟨xs,q,wq _⟩,hd σ H p⟩
theorem pI {K:wc}{a:Addr}{xs:List V}{g:TG}{tb:TS}{D:Ends}{σ:St}{H:Hp}(Pv:Nat->St->Hp->Prop)(h0:Pv 0 σ H)(hl:∀i σ H,i<=xs.length->Pv i σ H->SqT K H a xs)
  (hs:∀i x σ H T,xs[i]? = some x->H T=none->Pv i σ H->g (.ref T) σ (upd H T (.tup [.int i,x])) λσ2 H2=>tb { D with nx:=Pv (i+1),ct:=Pv (i+1),bk:=D.nx } σ2 H2) (hd:∀σ H,Pv xs.length σ H->D.nx σ H):qN (ItE K a) g tb D σ H:=by
 refine ⟨λi m σ H=>m=xs.length-i/\i<=xs.length/\Pv i σ H,⟨xs.length,by simp,xH _,h0⟩,?_⟩
 rintro i m σ H ⟨rfl,hi,p⟩
 have q:=hl i σ H hi p
 by_cases hlt:i<xs.length
 ·refine .inr ⟨⟨xs,xs[i],q,by simp[hlt]⟩,Pv (i+1),λσ' H' p'=>⟨xs.length-(i+1),by lia,rfl,hlt,p'⟩,λx H' y =>?_⟩
  obtain ⟨T,v,hT,ex,eH,hv⟩:=y
  subst ex eH
  exact hs i v σ H T (hv xs q) hT p
 ·have e:i=xs.length:=by lia
  subst e
  exact .inl ⟨⟨xs,q,wq _⟩,hd σ H p⟩
end L2
namespace Srt
open PySem PyProof.Rows
def gal:Bool->wM->Array wM->Nat->Nat->Nat->StateT w9 Sem (Option Nat):=sortPriv% PySem.Builtin.gallop
def mLo:Array wM->Array wM->StateT w9 Sem (Array wM):=sortPriv% PySem.Builtin.mergeLo
def mHi:Array wM->Array wM->StateT w9 Sem (Array wM):=sortPriv% PySem.Builtin.mergeHi
def mAt:Nat->StateT w9 Sem Bool:=sortPriv% PySem.Builtin.mergeAt
def uf:StateT w9 Sem Unit:=sortPriv% PySem.Builtin.sortRuns
def uO:Nat->Nat->StateT w9 Sem (Option Nat):=sortPriv% PySem.Builtin.countRun
def qO:Nat->Nat->Nat->StateT w9 Sem Bool:=sortPriv% PySem.Builtin.binarySort
theorem uP (lf:Bool)(ky:wM)(ar:Array wM)(bs n ht:Nat):gal lf ky ar bs n ht=(do
    let far (i:Nat):StateT w9 Sem (Option Bool):=do
      let z ← elem' ar (bs+i)
      if lf then lt' z ky else return (← lt' ky z).map (!·)
    let mut la:=0;let mut of:=1
    let mut lo:=0;let mut hi:=0
    let some rt ← far ht | return none
    if rt then
      let mx:=n-ht
      for _ in [0:n] do
        if of≥mx then break
        let some mo ← far (ht+of)
          | return none
        if !mo then break
        la:=of;of:=2*of+1
      lo:=ht+la+1;hi:=ht+min of mx
    else
      let mx:=ht+1
      for _ in [0:n] do
        if of≥mx then break
        let some fd ← far (ht-of)
          | return none
        if fd then break
        la:=of;of:=2*of+1
      lo:=ht+1-min of mx;hi:=ht-la
    for _ in [0:n] do
      if lo≥hi then break
      let md:=lo+(hi-lo)/2
      let some mo ← far md | return none
      if mo then lo:=md+1 else hi:=md
    return some hi):=rfl
section
variable  {prog:wL}{w:xg}{A:xF}{E:wm->wu->Prop}{s:wu}
theorem qP {lf:Bool}{ky:wM}{ar:Array wM}{bs n ht:Nat}{st:w9}{Q:Option Nat->w9->Prop}(p:Nat->Bool)
    (hf:∀i,i<n->∀(Q:Option Bool->w9->Prop),Q (some (p i)) st->wpS (xk prog w) A E s (do let z ← elem' ar (bs+i);if lf then lt' z ky else return (← lt' ky z).map (!·)) Q st)
    (hp:∀i j,i<=j->j<n->p j=true->p i=true) (hh:ht<n)
    (h:∀k,k<=n->(∀i,i<k->p i=true)->(∀i,k<=i->i<n->p i=false)->Q (some k) st):wpS (xk prog w) A E s (gal lf ky ar bs n ht) Q st:=by
  rw[uP]
  dsimp only
  refine wK (hf ht hh _ ?_)
  dsimp only
  cases hr:p ht with
  | true =>
    rw[if_pos rfl]
    refine wK (yI (xV (I:=λx c st'=>st=st'/\∃la of,c=(none,la,of)/\la<of/\x+1<=of/\ht+la<n/\p (ht+la)=true)
      (Q:=λc st'=>st=st'/\∃la of,c=(none,la,of)/\la<of/\ht+la<n/\p (ht+la)=true/\(n-ht<=of\/(ht+of<n/\p (ht+of)=false))) ?step ?fin ⟨rfl,0,1,rfl,by lia,by lia,by lia,by simpa using hr⟩) ?post)
    case fin =>
      rintro c st' ⟨rfl,la,of,rfl,b1,b2,b3,b4⟩
      exact ⟨rfl,la,of,rfl,b1,b3,b4,.inl (by lia)⟩
    case step =>
      rintro x c st' _ hx ⟨rfl,la,of,rfl,b1,b2,b3,b4⟩
      dsimp only
      by_cases hge:of≥n-ht
      · rw[if_pos hge]
        exact wQ ⟨rfl,la,of,rfl,b1,b3,b4,.inl hge⟩
      · rw[if_neg hge]
        refine wK (hf _ (by lia) _ ?_)
        dsimp only
        cases hm:p (ht+of) with
        | true =>
          simp only[Bs,yx,if_false]
          exact wQ ⟨rfl,of,2*of+1,rfl,by lia,by lia,by lia,hm⟩
        | false =>
          simp only[Bool.not_false,if_true]
          exact wQ ⟨rfl,la,of,rfl,b1,b3,b4,.inr ⟨by lia,hm⟩⟩
    case post =>
      rintro c st' ⟨rfl,la,of,rfl,b1,b3,b4,b5⟩
      have h1:(ht+la+1)<=(ht+min of (n-ht)):=by lia
      have h2:(ht+min of (n-ht))<=n:=by lia
      have h3:∀i,i<(ht+la+1)->p i=true:=λi hi=>hp i (ht+la) (by lia) b3 b4
      have h4:∀i,(ht+min of (n-ht))<=i->i<n->p i=false:=λi hi hn=>by
        rcases b5 with b5 | ⟨b5,b6⟩
        · lia
        · cases hpi:p i with
          | false=>rfl
          | true=>rw[hp (ht+of) i (by lia) hn hpi] at b6;cases b6
      dsimp only
      refine wK (yI (xV (I:=λx c st'=>st=st'/\∃lo hi,c=(none,lo,hi)/\lo<=hi/\hi<=n/\hi-lo<=n-x/\(∀i,i<lo->p i=true)/\(∀i,hi<=i->i<n->p i=false))
        (Q:=λc st'=>st=st'/\∃k,c=(none,k,k)/\k<=n/\(∀i,i<k->p i=true)/\(∀i,k<=i->i<n->p i=false)) ?step ?fin ⟨rfl,(ht+la+1),(ht+min of (n-ht)),rfl,h1,h2,by lia,h3,h4⟩) ?post)
      case fin =>
        rintro c st' ⟨rfl,lo,hi,rfl,a1,a2,a3,a4,a5⟩
        have e:lo=hi:=by lia
        subst e
        exact ⟨rfl,lo,rfl,a2,a4,a5⟩
      case post =>
        rintro c st' ⟨rfl,k,rfl,a2,a4,a5⟩
        exact wQ (h k a2 a4 a5)
      case step =>
        rintro x c st' _ hx ⟨rfl,lo,hi,rfl,a1,a2,a3,a4,a5⟩
        dsimp only
        by_cases hge:lo≥hi
        · rw[if_pos hge]
          have e:lo=hi:=by lia
          subst e
          exact wQ ⟨rfl,lo,rfl,a2,a4,a5⟩
        · rw[if_neg hge]
          refine wK (hf _ (by lia) _ ?_)
          dsimp only
          cases hm:p (lo+(hi-lo)/2) with
          | true =>
            rw[if_pos rfl]
            exact wQ ⟨rfl,_,_,rfl,by lia,a2,by lia,λi hi'=>hp i _ (by lia) (by lia) hm,a5⟩
          | false =>
            rw[if_neg (by simp)]
            refine wQ ⟨rfl,_,_,rfl,by lia,by lia,by lia,a4,λi hi' hn =>?_⟩
            cases hpi:p i with
            | false=>rfl
            | true=>rw[hp _ i hi' hn hpi] at hm;cases hm
  | false =>
    rw[if_neg (by simp)]
    refine wK (yI (xV (I:=λx c st'=>st=st'/\∃la of,c=(none,la,of)/\la<of/\x+1<=of/\la<=ht/\p (ht-la)=false)
      (Q:=λc st'=>st=st'/\∃la of,c=(none,la,of)/\la<of/\la<=ht/\p (ht-la)=false/\(ht+1<=of\/(of<=ht/\p (ht-of)=true))) ?step ?fin ⟨rfl,0,1,rfl,by lia,by lia,by lia,by simpa using hr⟩) ?post)
    case fin =>
      rintro c st' ⟨rfl,la,of,rfl,b1,b2,b3,b4⟩
      exact ⟨rfl,la,of,rfl,b1,b3,b4,.inl (by lia)⟩
    case step =>
      rintro x c st' _ hx ⟨rfl,la,of,rfl,b1,b2,b3,b4⟩
      dsimp only
      by_cases hge:of≥ht+1
      · rw[if_pos hge]
        exact wQ ⟨rfl,la,of,rfl,b1,b3,b4,.inl hge⟩
      · rw[if_neg hge]
        refine wK (hf _ (by lia) _ ?_)
        dsimp only
        cases hm:p (ht-of) with
        | true =>
          rw[if_pos rfl]
          exact wQ ⟨rfl,la,of,rfl,b1,b3,b4,.inr ⟨by lia,hm⟩⟩
        | false =>
          rw[if_neg (by simp)]
          exact wQ ⟨rfl,of,2*of+1,rfl,by lia,by lia,by lia,hm⟩
    case post =>
      rintro c st' ⟨rfl,la,of,rfl,b1,b3,b4,b5⟩
      have h1:(ht+1-min of (ht+1))<=(ht-la):=by lia
      have h2:(ht-la)<=n:=by lia
      have h3:∀i,i<(ht+1-min of (ht+1))->p i=true:=λi hi=>by
        rcases b5 with b5 | ⟨b5,b6⟩
        · lia
        · exact hp i (ht-of) (by lia) (by lia) b6
      have h4:∀i,(ht-la)<=i->i<n->p i=false:=λi hi hn=>by
        cases hpi:p i with
        | false=>rfl
        | true=>rw[hp (ht-la) i hi hn hpi] at b4;cases b4
      dsimp only
      refine wK (yI (xV (I:=λx c st'=>st=st'/\∃lo hi,c=(none,lo,hi)/\lo<=hi/\hi<=n/\hi-lo<=n-x/\(∀i,i<lo->p i=true)/\(∀i,hi<=i->i<n->p i=false))
        (Q:=λc st'=>st=st'/\∃k,c=(none,k,k)/\k<=n/\(∀i,i<k->p i=true)/\(∀i,k<=i->i<n->p i=false)) ?step ?fin ⟨rfl,(ht+1-min of (ht+1)),(ht-la),rfl,h1,h2,by lia,h3,h4⟩) ?post)
      case fin =>
        rintro c st' ⟨rfl,lo,hi,rfl,a1,a2,a3,a4,a5⟩
        have e:lo=hi:=by lia
        subst e
        exact ⟨rfl,lo,rfl,a2,a4,a5⟩
      case post =>
        rintro c st' ⟨rfl,k,rfl,a2,a4,a5⟩
        exact wQ (h k a2 a4 a5)
      case step =>
        rintro x c st' _ hx ⟨rfl,lo,hi,rfl,a1,a2,a3,a4,a5⟩
        dsimp only
        by_cases hge:lo≥hi
        · rw[if_pos hge]
          have e:lo=hi:=by lia
          subst e
          exact wQ ⟨rfl,lo,rfl,a2,a4,a5⟩
        · rw[if_neg hge]
          refine wK (hf _ (by lia) _ ?_)
          dsimp only
          cases hm:p (lo+(hi-lo)/2) with
          | true =>
            rw[if_pos rfl]
            exact wQ ⟨rfl,_,_,rfl,by lia,a2,by lia,λi hi'=>hp i _ (by lia) (by lia) hm,a5⟩
          | false =>
            rw[if_neg (by simp)]
            refine wQ ⟨rfl,_,_,rfl,by lia,by lia,by lia,a4,λi hi' hn =>?_⟩
            cases hpi:p i with
            | false=>rfl
            | true=>rw[hp _ i hi' hn hpi] at hm;cases hm
end
open PySem PyProof.Rows
structure Cmp (prog:wL)(w:xg)(A:xF)(s:wu)(O:A5)(key:wM->O.α)(U:wM->Prop)(κ:SortKind):Prop where
 lt:∀(E:wm->wu->Prop) (st:w9) (x y:wM) (Q:Option Bool->w9->Prop),kindOf st=κ -> U x->U y->Q (some (O.blt (key x) (key y))) st->wpS (xk prog w) A E s (lt' x y) Q st
section
variable  {prog:wL}{w:xg}{A:xF}{E:wm->wu->Prop}{s:wu}{O:A5}{key:wM->O.α}{U:wM->Prop}{κ:SortKind}
theorem a6 {ar:Array wM}{i:Nat}{z:wM}{st:w9}{Q:wM->w9->Prop}(h:ar[i]? = some z)(hq:Q z st):wpS (xk prog w) A E s (elem' ar i) Q st:=by
 rw[elem'_eq,h]
 exact wQ hq
theorem uQ (C:Cmp prog w A s O key U κ){ky:wM}{ar:Array wM}{bs n ht:Nat}{st:w9}{Q:Option Nat->w9->Prop}(g:Nat->wM)(hk:kindOf st=κ)(uk:U ky)
  (hg:∀i,i<n->ar[bs+i]? = some (g i)) (hu:∀i,i<n->U (g i)) (hs:∀i j,i<=j->j<n->O.kle (key (g i)) (key (g j))) (hh:ht<n)
  (h:∀k,k<=n->(∀i,i<k->O.kle (key (g i)) (key ky))->(∀i,k<=i->i<n->O.klt (key ky) (key (g i)))->Q (some k) st):wpS (xk prog w) A E s (gal false ky ar bs n ht) Q st:=by
 refine qP (λi => !O.blt (key ky) (key (g i))) (λi hi R hr =>?_) (λi j hij hj hp =>?_) hh (λk hk' h1 h2=>h k hk' (λi hi =>?_) λi hi hn =>?_)
 ·refine wK (a6 (hg i hi) ?_)
  rw[if_neg (by simp)]
  exact wK (C.lt _ st ky (g i) _ hk uk (hu i hi) (wQ hr))
 ·have a1:O.blt (key ky) (key (g j))=false:=by simpa using hp
  have a2:O.kle (key (g i)) (key ky):=xo (hs i j hij hj) a1
  have a3:O.blt (key ky) (key (g i))=false:=a2
  simp[a3]
 ·have a1:=h1 i hi
  exact (by simpa using a1:O.blt (key ky) (key (g i))=false)
 ·have a1:=h2 i hi hn
  exact (by simpa using a1:O.blt (key ky) (key (g i))=true)
theorem uS (C:Cmp prog w A s O key U κ){ky:wM}{ar:Array wM}{bs n ht:Nat}{st:w9}{Q:Option Nat->w9->Prop}(g:Nat->wM)(hk:kindOf st=κ)(uk:U ky)
  (hg:∀i,i<n->ar[bs+i]? = some (g i)) (hu:∀i,i<n->U (g i)) (hs:∀i j,i<=j->j<n->O.kle (key (g i)) (key (g j))) (hh:ht<n)
  (h:∀k,k<=n->(∀i,i<k->O.klt (key (g i)) (key ky))->(∀i,k<=i->i<n->O.kle (key ky) (key (g i)))->Q (some k) st):wpS (xk prog w) A E s (gal true ky ar bs n ht) Q st:=by
 refine qP (λi=>O.blt (key (g i)) (key ky)) (λi hi R hr =>?_) (λi j hij hj hp =>?_) hh (λk hk' h1 h2=>h k hk' (λi hi=>h1 i hi) λi hi hn=>h2 i hi hn)
 ·refine wK (a6 (hg i hi) ?_)
  rw[if_pos rfl]
  exact C.lt _ st (g i) ky _ hk (hu i hi) uk hr
 ·exact KeyOrd.klt_of_kle_of_klt (hs i j hij hj) hp
end
open PySem PyProof.Rows
section
variable  {O:A5}(key:wM->O.α)
def Le (p q:wM):Prop:=O.kle (key p) (key q)
structure MW (a b o:Array wM)(x y:Nat):Prop where
 hx:x<=a.size
 hy:y<=b.size
 perm:(o.toList++(a.toList.drop x++b.toList.drop y)).Perm (a.toList++b.toList)
 sorted:o.toList.Pairwise (Le key)
 below:∀p∈o.toList,∀z∈a.toList.drop x++b.toList.drop y,Le key p z
def dw (a b r:Array wM):Prop:=r.toList.Perm (a.toList++b.toList)/\r.toList.Pairwise (Le key)
variable  {key}
theorem MW.fin {a b o:Array wM}{x y:Nat}(m:MW key a b o x y){t:List wM}{r:Array wM}(hr:r.toList=o.toList++t)(ht:t.Perm (a.toList.drop x++b.toList.drop y))(hs:t.Pairwise (Le key)):dw key a b r:=by
 unfold dw
 rw[hr]
 exact ⟨(yJ _ ht).trans m.perm,yc.mpr ⟨m.sorted,hs,λp hp q hq=>m.below p hp q (ht.mem_iff.mp hq)⟩⟩
theorem MW.take {a b o:Array wM}{x y x' y':Nat}(m:MW key a b o x y){t:List wM}{r:Array wM}(hr:r.toList=o.toList++t)(hx:x'<=a.size)(hy:y'<=b.size)
  (ht:(t++(a.toList.drop x'++b.toList.drop y')).Perm (a.toList.drop x++b.toList.drop y)) (hs:t.Pairwise (Le key)) (hb:∀p∈t,∀z∈a.toList.drop x'++b.toList.drop y',Le key p z):MW key a b r x' y':=by
 have sub:∀z,z∈t\/z∈a.toList.drop x'++b.toList.drop y'->z∈a.toList.drop x++b.toList.drop y:=λz hz=>ht.mem_iff.mp (wC.mpr hz)
 refine ⟨hx,hy,?_,?_,?_⟩
 ·rw[hr,xc]
  exact (yJ _ ht).trans m.perm
 ·rw[hr]
  exact yc.mpr ⟨m.sorted,hs,λp hp q hq=>m.below p hp q (sub q (.inl hq))⟩
 ·rw[hr]
  intro p hp z hz
  rcases wC.mp hp with h | h
  ·exact m.below p h z (sub z (.inr hz))
  ·exact hb p h z hz
theorem drop_cons {α:Type}{l:List α}{i:Nat}{z:α}(h:l[i]? = some z):l.drop i=z :: l.drop (i+1):=by
 obtain ⟨hi,e⟩:=wF.mp h
 rw[A8 hi,e]
theorem drop_take {α:Type}(l:List α)(i k:Nat):l.drop i=(l.drop i).take k++l.drop (i+k):=by
 rw[<- Du,yK]
theorem aJ {a:Array wM}{i:Nat}{z:wM}(h:a[i]? = some z):a.toList[i]? = some z:=by rw[wI];exact h
theorem MW.ij {a b o:Array wM}{x y:Nat}{z:wM}(m:MW key a b o x y)(h:a[x]? = some z)(ha:a.toList.Pairwise (Le key))(hb:∀t∈b.toList.drop y,Le key z t):MW key a b (o.push z) (x+1) y:=by
 have e:=drop_cons (aJ h)
 have hx:x<a.size:=(yF.mp h).1
 have pa:(z :: a.toList.drop (x+1)).Pairwise (Le key):=by rw[<- e];exact ha.sublist (xS _ _)
 refine m.take (t:=[z]) (by rw[zf]) hx m.hy (by rw[e];exact A9 _) (yQ _ _) λp hp t ht =>?_
 have ep:p=z:=by simpa using hp
 subst ep
 rcases wC.mp ht with q | q
 ·exact (Cz.mp pa).1 t q
 ·exact hb t q
theorem MW.jZ {a b o:Array wM}{x y:Nat}{z:wM}(m:MW key a b o x y)(h:b[y]? = some z)(hb:b.toList.Pairwise (Le key))(ha:∀t∈a.toList.drop x,Le key z t):MW key a b (o.push z) x (y+1):=by
 have e:=drop_cons (aJ h)
 have hy:y<b.size:=(yF.mp h).1
 have pb:(z :: b.toList.drop (y+1)).Pairwise (Le key):=by rw[<- e];exact hb.sublist (xS _ _)
 refine m.take (t:=[z]) (by rw[zf]) m.hx hy (by rw[e,List.singleton_append];exact Dc.symm) (yQ _ _) λp hp t ht =>?_
 have ep:p=z:=by simpa using hp
 subst ep
 rcases wC.mp ht with q | q
 ·exact ha t q
 ·exact (Cz.mp pb).1 t q
theorem ext_toList (a:Array wM)(x k:Nat):(a.extract x (x+k)).toList=(a.toList.drop x).take k:=by
 rw[yM,yo,zr]
theorem fB (a:Array wM)(x:Nat):(a.extract x a.size).toList=a.toList.drop x:=by
 rw[yM,yo]
 exact yd (by rw[yp,wy];exact wq _)
theorem aM {l:List wM}(h:l.Pairwise (Le key)){i j:Nat}{p q:wM}(hi:l[i]? = some p)(hj:l[j]? = some q)(hij:i<=j):Le key p q:=by
 by_cases e:i=j
 ·subst e
  rw[hi] at hj
  cases hj
  exact yy _
 ·obtain ⟨h1,e1⟩:=wF.mp hi
  obtain ⟨h2,e2⟩:=wF.mp hj
  have:=zT.mp h i j h1 h2 (by lia)
  rw[e1,e2] at this
  exact this
theorem aZ {l:List wM}{i:Nat}{t:wM}(h:t∈l.drop i):∃j,i<=j/\l[j]? = some t:=by
 obtain ⟨n,e⟩:=xI.mp h
 rw[zD] at e
 exact ⟨i+n,by lia,e⟩
theorem ik {l:List wM}{i k:Nat}{t:wM}(h:t∈(l.drop i).take k):∃j,j<k/\l[i+j]? = some t:=by
 obtain ⟨n,e⟩:=xI.mp h
 rw[yz] at e
 split at e
 ·rw[zD] at e
  exact ⟨n,by omega,e⟩
 ·cases e
theorem MW.qQ {a b o:Array wM}{x y k:Nat}(m:MW key a b o x y)(hk:x+k<=a.size)(ha:a.toList.Pairwise (Le key))(hb:∀j p,j<k->a.toList[x+j]? = some p->∀t∈b.toList.drop y,Le key p t):MW key a b (o++a.extract x (x+k)) (x+k) y:=by
 refine m.take (t:=(a.toList.drop x).take k) (by rw[xp,ext_toList]) hk m.hy ?_ ?_ λp hp t ht =>?_
 ·rw[<- xc, <- drop_take]
 ·exact ha.sublist ((xR _ _).trans (xS _ _))
 ·obtain ⟨j,hj,e⟩:=ik hp
  rcases wC.mp ht with q | q
  ·obtain ⟨i,hi,e2⟩:=aZ q
   exact aM ha e e2 (by lia)
  ·exact hb j p hj e t q
theorem MW.qR {a b o:Array wM}{x y k:Nat}(m:MW key a b o x y)(hk:y+k<=b.size)(hb:b.toList.Pairwise (Le key))(ha:∀j p,j<k->b.toList[y+j]? = some p->∀t∈a.toList.drop x,Le key p t):MW key a b (o++b.extract y (y+k)) x (y+k):=by
 refine m.take (t:=(b.toList.drop y).take k) (by rw[xp,ext_toList]) m.hx hk ?_ ?_ λp hp t ht =>?_
 ·rw[drop_take b.toList y k]
  have e:((b.toList.drop y).take k++b.toList.drop (y+k)).take k=(b.toList.drop y).take k:=by rw[<- drop_take]
  rw[e]
  refine (List.perm_append_comm_assoc _ _ _)
 ·exact hb.sublist ((xR _ _).trans (xS _ _))
 ·obtain ⟨j,hj,e⟩:=ik hp
  rcases wC.mp ht with q | q
  ·exact ha j p hj e t q
  ·obtain ⟨i,hi,e2⟩:=aZ q
   exact aM hb e e2 (by lia)
theorem MW.pJ {a b o:Array wM}{x y:Nat}(m:MW key a b o x y)(ha:a.toList.Pairwise (Le key))(hy:y=b.size):dw key a b (o++a.extract x a.size++b.extract y b.size):=by
 subst hy
 have e:b.toList.drop b.size=[]:=BH (by rw[wy];exact wq _)
 refine m.fin (t:=a.toList.drop x) (by rw[xp,xp,fB,fB,e,xM]) (by rw[e,xM]) (ha.sublist (xS _ _))
theorem MW.pK {a b o:Array wM}{x y:Nat}(m:MW key a b o x y)(hb:b.toList.Pairwise (Le key))(hx:x=a.size):dw key a b (o++a.extract x a.size++b.extract y b.size):=by
 subst hx
 have e:a.toList.drop a.size=[]:=BH (by rw[wy];exact wq _)
 refine m.fin (t:=b.toList.drop y) (by rw[xp,xp,fB,fB,e,xM]) (by rw[e,Ad]) (hb.sublist (xS _ _))
theorem MW.last {a b o:Array wM}{x y:Nat}(m:MW key a b o x y)(ha:a.toList.Pairwise (Le key))(hb:b.toList.Pairwise (Le key))(hx:x+1=a.size)(hl:∀p q,p∈b.toList->a[a.size-1]? = some q->Le key p q):dw key a b (o++b.extract y b.size++a.extract x a.size):=by
 refine m.fin (t:=b.toList.drop y++a.toList.drop x) (by rw[xp,xp,fB,fB,xc]) zK ?_
 refine yc.mpr ⟨hb.sublist (xS _ _),ha.sublist (xS _ _),λp hp q hq=>hl p q (yN hp) ?_⟩
 obtain ⟨i,hi,e⟩:=aZ hq
 rw[wI] at e
 have hi2:i<a.size:=(yF.mp e).1
 rw[show a.size-1=i by lia]
 exact e
theorem MW.size {a b o:Array wM}{x y:Nat}(m:MW key a b o x y):o.size+(a.size-x)+(b.size-y)=a.size+b.size:=by
 have e:=m.perm.length_eq
 simp only[wj,yp,wy] at e
 lia
end
structure Sm (st st':w9):Prop where
 k:kindOf st'=kindOf st
 a:wU st'=wU st
 p:wW st'=wW st
 f:failedOf st'=failedOf st
theorem Sm.refl (st:w9):Sm st st:=⟨rfl,rfl,rfl,rfl⟩
theorem Sm.mg {st st':w9}(h:Sm st st')(n:Nat):Sm st (SortSt.mk' (kindOf st') (wU st') (wW st') n (failedOf st')):=⟨h.k,h.a,h.p,h.f⟩
open PySem PyProof.Rows
section
variable  {prog:wL}{w:xg}{A:xF}{E:wm->wu->Prop}{s:wu}{O:A5}{key:wM->O.α}{U:wM->Prop}{κ:SortKind}
theorem a9 {a:Array wM}{i:Nat}(h:i<a.size):∃z,a[i]? = some z:=⟨a[i],by simp[h]⟩
theorem bJ {a:Array wM}{i:Nat}{z:wM}(h:a[i]? = some z):z∈a.toList:=xI.mpr ⟨i,by rw[wI];exact h⟩
theorem ltq {x n:Nat}(h:x<=n)(c:¬ (x == n)=true):x<n:=CA h λz=>c (beq_iff_eq.mpr z)
abbrev LoC:=Option (Array wM)×Array wM×Nat×Nat×Nat×Nat×Nat
def sP (a b o:Array wM)(x y mg ac bc:Nat):StateT w9 Sem (ForInStep LoC):=do
  let z ← elem' a x
  if (x+1+1 == a.size)=true then pure (.done (some (o.push z++b.extract y b.size++a.extract (x+1) a.size),o.push z,x+1,y,mg,ac,bc))
  else if (decide (ac<7) && decide (bc<7))=true then pure (.done (none,o.push z,x+1,y,mg,ac,bc))
  else pure (.yield (none,o.push z,x+1,y,mg,ac,bc))
def sQ (a b o:Array wM)(x y mg ac bc:Nat):StateT w9 Sem (ForInStep LoC):=do
  let z ← elem' b y
  if (y+1 == b.size)=true then pure (.done (some (o.push z++a.extract x a.size++b.extract (y+1) b.size),o.push z,x,y+1,mg,ac,bc))
  else do
    let z2 ← elem' a x
    let __x ← gal true z2 b (y+1) (b.size-(y+1)) 0
    match __x with
    | some k =>
      if k>0 then
        if (y+1+k == b.size)=true then pure (.done (some (o.push z++b.extract (y+1) (y+1+k)++a.extract x a.size++b.extract (y+1+k) b.size),o.push z++b.extract (y+1) (y+1+k),x,y+1+k,mg,ac,k))
        else sP a b (o.push z++b.extract (y+1) (y+1+k)) x (y+1+k) mg ac k
      else sP a b (o.push z) x (y+1) mg ac k
    | _=>pure (.done (some (o.push z++a.extract x a.size++b.extract (y+1) b.size),o.push z,x,y+1,mg,ac,bc))
def pL (a b p:Array wM)(x y ac bc mg:Nat):StateT w9 Sem (ForInStep LoC):=do
  modify (λs=>SortSt.mk' (kindOf s) (wU s) (wW s) mg (failedOf s))
  let z ← elem' b y
  let __x ← gal false z a x (a.size-x) 0
  match __x with
  | some k =>
    if k>0 then
      if (x+k+1 == a.size)=true then pure (.done (some (p++a.extract x (x+k)++b.extract y b.size++a.extract (x+k) a.size),p++a.extract x (x+k),x+k,y,mg,k,bc))
      else if (x+k == a.size)=true then pure (.done (some (p++a.extract x (x+k)++a.extract (x+k) a.size++b.extract y b.size),p++a.extract x (x+k),x+k,y,mg,k,bc))
      else sQ a b (p++a.extract x (x+k)) (x+k) y mg k bc
    else sQ a b p x y mg k bc
  | _=>pure (.done (some (p++a.extract x a.size++b.extract y b.size),p,x,y,mg,ac,bc))
def LoQ (key:wM->O.α)(a b:Array wM)(st:w9)(n:Nat)(r:ForInStep LoC)(st':w9):Prop:=match r with
 | .done c=>Sm st st'/\((∃r p x y mg ac bc,c=(some r,p,x,y,mg,ac,bc)/\dw key a b r)\/∃p x y mg ac bc,c=(none,p,x,y,mg,ac,bc)/\MW key a b p x y/\x+1<a.size/\y<b.size/\n<=p.size)
 | .yield c=>Sm st st'/\∃p x y mg ac bc,c=(none,p,x,y,mg,ac,bc)/\MW key a b p x y/\x+1<a.size/\y<b.size/\n<=p.size
theorem LoQ.out {a b:Array wM}{st st':w9}{n:Nat}{r:Array wM}{c:Array wM×Nat×Nat×Nat×Nat×Nat}(sm:Sm st st')(f:dw key a b r):LoQ key a b st n (.done (some r,c)) st':=by
 obtain ⟨p,x,y,mg,ac,bc⟩:=c
 exact ⟨sm,.inl ⟨_,_,_,_,_,_,_,rfl,f⟩⟩
theorem oo {a b:Array wM}{st st':w9}(ha:a.toList.Pairwise (Le key))(hb:b.toList.Pairwise (Le key))(hl:∀p q,p∈b.toList->a[a.size-1]? = some q->Le key p q)
  {o:Array wM} {x y mg ac bc n:Nat} {za:wM} (sm:Sm st st') (ea:a[x]? = some za) (m4:MW key a b (o.push za) (x+1) y) (hx:x+1<a.size) (hy:y<b.size) (hn:n<=o.size):wpS (xk prog w) A E s (sP a b o x y mg ac bc) (LoQ key a b st n) st':=by
 unfold sP
 refine wK (a6 ea ?_)
 by_cases d5:(x+1+1 == a.size)=true
 ·rw[if_pos d5]
  exact wQ (LoQ.out sm (m4.last ha hb (beq_iff_eq.mp d5) hl))
 rw[if_neg d5]
 have hx2:x+1+1<a.size:=ltq hx d5
 have hn':n<=(o.push za).size:=by rw[zL];exact Ap hn
 split
 ·exact wQ ⟨sm,.inr ⟨_,_,_,_,_,_,rfl,m4,hx2,hy,hn'⟩⟩
 ·exact wQ ⟨sm,_,_,_,_,_,_,rfl,m4,hx2,hy,hn'⟩
theorem oq (C:Cmp prog w A s O key U κ){a b:Array wM}{st st':w9}(hκ:kindOf st=κ)(ua:∀p∈a.toList,U p)(ub:∀p∈b.toList,U p)
  (ha:a.toList.Pairwise (Le key)) (hb:b.toList.Pairwise (Le key)) (hl:∀p q,p∈b.toList->a[a.size-1]? = some q->Le key p q)
  {o:Array wM} {x y mg ac bc n:Nat} {zb:wM} (sm:Sm st st') (eb:b[y]? = some zb) (mk:MW key a b o x y) (bl:∀t∈a.toList.drop x,Le key zb t) (hx1:x+1<a.size) (hy:y<b.size) (hn:n<=o.size):wpS (xk prog w) A E s (sQ a b o x y mg ac bc) (LoQ key a b st n) st':=by
 unfold sQ
 refine wK (a6 eb ?_)
 have m2:=mk.jZ eb hb bl
 by_cases d3:(y+1 == b.size)=true
 ·rw[if_pos d3]
  exact wQ (LoQ.out sm (m2.pJ ha (beq_iff_eq.mp d3)))
 rw[if_neg d3]
 have hy1:y+1<b.size:=ltq hy d3
 have hxa:x<a.size:=zN hx1
 obtain ⟨za,ea⟩:=a9 hxa
 refine wK (a6 ea ?_)
 refine wK (uS C (λi=>(b[y+1+i]?).getD za) (sm.k.trans hκ) (ua _ (bJ ea)) (λi hi =>?_) (λi hi =>?_) (λi j hij hj =>?_) (CV hy1) λk1 hk1 g1 g2 =>?_)
 ·obtain ⟨z,e⟩:=a9 (show y+1+i<b.size by omega)
  rw[e];rfl
 ·obtain ⟨z,e⟩:=a9 (show y+1+i<b.size by omega)
  rw[e];exact ub _ (bJ e)
 ·obtain ⟨z,e⟩:=a9 (show y+1+i<b.size by omega)
  obtain ⟨z',e'⟩:=a9 (show y+1+j<b.size by omega)
  rw[e,e'];exact aM hb (aJ e) (aJ e') (AJ hij _)
 dsimp only at g1 g2 ⊢
 have tb:∀j q,j<k1->b.toList[y+1+j]? = some q->∀t∈a.toList.drop x,Le key q t:=λj q hj e t ht=>by
  have z:=g1 j hj
  rw[wI] at e
  rw[e] at z
  obtain ⟨n,hn,e2⟩:=aZ ht
  exact xo (x8 z) (aM ha (aJ ea) e2 hn)
 have hk1':y+1+k1<=b.size:=by omega
 have m3:=m2.qR (k:=k1) hk1' hb tb
 have bl2:∀t∈b.toList.drop (y+1+k1),Le key za t:=λt ht=>by
  obtain ⟨n,hn,e2⟩:=aZ ht
  rw[wI] at e2
  have hn2:n<b.size:=(yF.mp e2).1
  have z:=g2 (n-(y+1)) (by omega) (by omega)
  rw[show y+1+(n-(y+1))=n by omega,e2] at z
  exact z
 have hn1:n<=(o.push zb).size:=by rw[zL];exact Ap hn
 by_cases k2:k1>0
 ·rw[if_pos k2]
  by_cases d4:(y+1+k1 == b.size)=true
  ·rw[if_pos d4]
   exact wQ (LoQ.out sm (m3.pJ ha (beq_iff_eq.mp d4)))
  rw[if_neg d4]
  exact oo ha hb hl sm ea (m3.ij ea ha bl2) hx1 (ltq hk1' d4) (xx hn1 (by rw[zO];exact y6 _ _))
 ·rw[if_neg k2]
  obtain rfl:k1=0:=zA k2
  exact oo ha hb hl sm ea (m2.ij ea ha bl2) hx1 hy1 hn1
theorem ot (C:Cmp prog w A s O key U κ){a b:Array wM}{st st':w9}(hκ:kindOf st=κ)(ua:∀p∈a.toList,U p)(ub:∀p∈b.toList,U p)
  (ha:a.toList.Pairwise (Le key)) (hb:b.toList.Pairwise (Le key)) (hl:∀p q,p∈b.toList->a[a.size-1]? = some q->Le key p q)
  {p:Array wM} {x y ac bc n:Nat} (mg:Nat) (sm:Sm st st') (m:MW key a b p x y) (hx:x+1<a.size) (hy:y<b.size) (hn:n<=p.size):wpS (xk prog w) A E s (pL a b p x y ac bc mg) (LoQ key a b st n) st':=by
 unfold pL
 obtain ⟨zb,eb⟩:=a9 hy
 refine wK (yV ?_)
 refine wK (a6 eb ?_)
 refine wK (uQ C (λi=>(a[x+i]?).getD zb) ((sm.mg _).k.trans hκ) (ub _ (bJ eb)) (λi hi =>?_) (λi hi =>?_) (λi j hij hj =>?_) (CV (zN hx)) λk hk h1 h2 =>?_)
 ·obtain ⟨z,e⟩:=a9 (show x+i<a.size by lia)
  rw[e];rfl
 ·obtain ⟨z,e⟩:=a9 (show x+i<a.size by lia)
  rw[e];exact ua _ (bJ e)
 ·obtain ⟨z,e⟩:=a9 (show x+i<a.size by lia)
  obtain ⟨z',e'⟩:=a9 (show x+j<a.size by lia)
  rw[e,e'];exact aM ha (aJ e) (aJ e') (AJ hij _)
 dsimp only at h1 h2 ⊢
 have ta:∀j q,j<k->a.toList[x+j]? = some q->∀t∈b.toList.drop y,Le key q t:=λj q hj e t ht=>by
  have z:=h1 j hj
  rw[wI] at e
  rw[e] at z
  obtain ⟨n,hn,e2⟩:=aZ ht
  exact xo (show O.kle (key q) (key zb) from z) (aM hb (aJ eb) e2 hn)
 have hk':x+k<=a.size:=by lia
 have mk:=m.qQ (k:=k) hk' ha ta
 have bl:∀t∈a.toList.drop (x+k),Le key zb t:=λt ht=>by
  obtain ⟨n,hn,e2⟩:=aZ ht
  rw[wI] at e2
  have hn2:n<a.size:=(yF.mp e2).1
  have z:=h2 (n-x) (by lia) (by lia)
  rw[show x+(n-x)=n by lia,e2] at z
  exact x8 z
 by_cases k0:k>0
 ·rw[if_pos k0]
  by_cases d1:(x+k+1 == a.size)=true
  ·rw[if_pos d1]
   exact wQ (LoQ.out (sm.mg _) (mk.last ha hb (beq_iff_eq.mp d1) hl))
  rw[if_neg d1]
  by_cases d2:(x+k == a.size)=true
  ·rw[if_pos d2]
   exact wQ (LoQ.out (sm.mg _) (mk.pK hb (beq_iff_eq.mp d2)))
  rw[if_neg d2]
  exact oq C hκ ua ub ha hb hl (sm.mg _) eb mk bl (ltq (ltq hk' d2) d1) hy (xx hn (by rw[zO];exact y6 _ _))
 ·rw[if_neg k0]
  obtain rfl:k=0:=zA k0
  exact oq C hκ ua ub ha hb hl (sm.mg _) eb m bl hx hy hn
theorem sR (C:Cmp prog w A s O key U κ){a b:Array wM}{st st':w9}(hκ:kindOf st=κ)(ua:∀p∈a.toList,U p)(ub:∀p∈b.toList,U p)
  (ha:a.toList.Pairwise (Le key)) (hb:b.toList.Pairwise (Le key)) (hl:∀p q,p∈b.toList->a[a.size-1]? = some q->Le key p q)
  {p:Array wM} {x y ac bc n mg:Nat} (sm:Sm st st') (m:MW key a b p x y) (hx:x+1<a.size) (hy:y<b.size) (hn:n<=p.size):wpS (xk prog w) A E s (if mg>1 then pL a b p x y ac bc (mg-1) else pL a b p x y ac bc mg) (LoQ key a b st n) st':=by
 split
 ·exact ot C hκ ua ub ha hb hl (mg-1) sm m hx hy hn
 ·exact ot C hκ ua ub ha hb hl mg sm m hx hy hn
abbrev LoD:=Option (Array wM)×Array wM×Nat×Nat×Nat×Nat
abbrev LoE:=Option (Array wM)×Array wM×Nat×Nat×Nat
def qS (a b:Array wM)(mg:Nat)(c:LoD):StateT w9 Sem (ForInStep LoD):=do
  let u ← elem' b c.2.2.2.1
  let v ← elem' a c.2.2.1
  let __x ← lt' u v
  match __x with
  | some bw =>
    if bw=true then do
      let z ← elem' b c.2.2.2.1
      if (c.2.2.2.1+1 == b.size)=true then pure (.done (some (c.2.1.push z++a.extract c.2.2.1 a.size++b.extract (c.2.2.2.1+1) b.size),c.2.1.push z,c.2.2.1,c.2.2.2.1+1,0,c.2.2.2.2.2+1))
      else if c.2.2.2.2.2+1≥mg then pure (.done (none,c.2.1.push z,c.2.2.1,c.2.2.2.1+1,0,c.2.2.2.2.2+1))
      else pure (.yield (none,c.2.1.push z,c.2.2.1,c.2.2.2.1+1,0,c.2.2.2.2.2+1))
    else do
      let z ← elem' a c.2.2.1
      if (c.2.2.1+1+1 == a.size)=true then pure (.done (some (c.2.1.push z++b.extract c.2.2.2.1 b.size++a.extract (c.2.2.1+1) a.size),c.2.1.push z,c.2.2.1+1,c.2.2.2.1,c.2.2.2.2.1+1,0))
      else if c.2.2.2.2.1+1≥mg then pure (.done (none,c.2.1.push z,c.2.2.1+1,c.2.2.2.1,c.2.2.2.2.1+1,0))
      else pure (.yield (none,c.2.1.push z,c.2.2.1+1,c.2.2.2.1,c.2.2.2.2.1+1,0))
  | _=>pure (.done (some (c.2.1++a.extract c.2.2.1 a.size++b.extract c.2.2.2.1 b.size),c.2.1,c.2.2.1,c.2.2.2.1,c.2.2.2.2.1,c.2.2.2.2.2))
def uT (a b:Array wM)(c:LoC):StateT w9 Sem (ForInStep LoC) :=
 if c.2.2.2.2.1>1 then pL a b c.2.1 c.2.2.1 c.2.2.2.1 c.2.2.2.2.2.1 c.2.2.2.2.2.2 (c.2.2.2.2.1-1) else pL a b c.2.1 c.2.2.1 c.2.2.2.1 c.2.2.2.2.2.1 c.2.2.2.2.2.2 c.2.2.2.2.1
def m6 (a b:Array wM)(c:LoE):StateT w9 Sem (ForInStep LoE):=do
  let d ← forIn [0:a.size+b.size] ((none,c.2.1,c.2.2.1,c.2.2.2.1,0,0):LoD) λ_ d=>qS a b c.2.2.2.2 d
  match d.1 with
  | some r=>pure (.done (some r,d.2.1,d.2.2.1,d.2.2.2.1,c.2.2.2.2))
  | none=>do
    rule "list.sort.gallop"
    let e ← forIn [0:a.size+b.size] ((none,d.2.1,d.2.2.1,d.2.2.2.1,c.2.2.2.2+1,d.2.2.2.2.1,d.2.2.2.2.2):LoC) λ_ e=>uT a b e
    match e.1 with
    | some r=>pure (.done (some r,e.2.1,e.2.2.1,e.2.2.2.1,e.2.2.2.2.1))
    | none=>do
      modify (λs=>SortSt.mk' (kindOf s) (wU s) (wW s) (e.2.2.2.2.1+1) (failedOf s))
      pure (.yield (none,e.2.1,e.2.2.1,e.2.2.2.1,e.2.2.2.2.1+1))
theorem sS (a b:Array wM):mLo a b=(do
    rule "list.sort.merge-lo"
    let z ← elem' b 0
    if (1 == b.size)=true then pure (#[z]++a.extract 0 a.size++b.extract 1 b.size)
    else if (0+1 == a.size)=true then pure (#[z]++b.extract 1 b.size++a.extract 0 a.size)
    else do
      let g ← get
      let c ← forIn [0:a.size+b.size] ((none, #[z],0,1,gallopOf g):LoE) λ_ c=>m6 a b c
      match c.1 with
      | some r=>pure r
      | none=>unsupported "internal:list.sort.merge-bound"):=by
  kernel_rfl
def LdI (key:wM->O.α)(a b:Array wM)(st:w9)(n:Nat)(c:LoD)(st':w9):Prop:=Sm st st'/\∃o' x y ac bc,c=(none,o',x,y,ac,bc)/\MW key a b o' x y/\x+1<a.size/\y<b.size/\n<=o'.size
def LdQ (key:wM->O.α)(a b:Array wM)(st:w9)(n:Nat)(c:LoD)(st':w9):Prop:=Sm st st'/\((∃r o x y ac bc,c=(some r,o,x,y,ac,bc)/\dw key a b r)\/∃o' x y ac bc,c=(none,o',x,y,ac,bc)/\MW key a b o' x y/\x+1<a.size/\y<b.size/\n<=o'.size)
theorem qT (C:Cmp prog w A s O key U κ){a b:Array wM}{st st':w9}(hκ:kindOf st=κ)(ua:∀p∈a.toList,U p)(ub:∀p∈b.toList,U p)
  (ha:a.toList.Pairwise (Le key)) (hb:b.toList.Pairwise (Le key)) (hl:∀p q,p∈b.toList->a[a.size-1]? = some q->Le key p q)
  {mg n m':Nat} {c:LoD} (I:LdI key a b st n c st') (hm:m'<=n+1) {Q:ForInStep LoD->w9->Prop} (h:∀r st',(match r with | .done c'=>LdQ key a b st (n+1) c' st' | .yield c'=>LdI key a b st m' c' st')->Q r st'):wpS (xk prog w) A E s (qS a b mg c) Q st':=by
 obtain ⟨sm2,o',x,y,ac,bc,rfl,m,hx,hy,hz⟩:=I
 unfold qS
 obtain ⟨za,ea⟩:=a9 (zN hx)
 obtain ⟨zb,eb⟩:=a9 hy
 refine wK (a6 eb (wK (a6 ea (wK (C.lt _ st' zb za _ (sm2.k.trans hκ) (ub _ (bJ eb)) (ua _ (bJ ea)) ?_)))))
 dsimp only
 have sz:∀z,n+1<=(o'.push z).size:=λz=>by rw[zL];exact Dd hz
 cases hlt:O.blt (key zb) (key za) with
 | true =>
  rw[if_pos rfl]
  refine wK (a6 eb ?_)
  have m1:=m.jZ eb hb λt ht=>by
   obtain ⟨n,hn,e⟩:=aZ ht
   exact xo (x8 hlt) (aM ha (aJ ea) e hn)
  by_cases c3:(y+1 == b.size)=true
  ·rw[if_pos c3]
   exact wQ (h _ _ ⟨sm2,.inl ⟨_,_,_,_,_,_,rfl,m1.pJ ha (beq_iff_eq.mp c3)⟩⟩)
  ·rw[if_neg c3]
   have c3':=ltq hy c3
   split
   ·exact wQ (h _ _ ⟨sm2,.inr ⟨_,_,_,_,_,rfl,m1,hx,c3',sz _⟩⟩)
   ·exact wQ (h _ _ ⟨sm2,_,_,_,_,_,rfl,m1,hx,c3',xx hm (sz _)⟩)
 | false =>
  rw[if_neg wG]
  refine wK (a6 ea ?_)
  have m1:=m.ij ea ha λt ht=>by
   obtain ⟨n,hn,e⟩:=aZ ht
   exact xo (show O.kle (key za) (key zb) from hlt) (aM hb (aJ eb) e hn)
  by_cases c3:(x+1+1 == a.size)=true
  ·rw[if_pos c3]
   exact wQ (h _ _ ⟨sm2,.inl ⟨_,_,_,_,_,_,rfl,m1.last ha hb (beq_iff_eq.mp c3) hl⟩⟩)
  ·rw[if_neg c3]
   have c3':=ltq hx c3
   split
   ·exact wQ (h _ _ ⟨sm2,.inr ⟨_,_,_,_,_,rfl,m1,c3',hy,sz _⟩⟩)
   ·exact wQ (h _ _ ⟨sm2,_,_,_,_,_,rfl,m1,c3',hy,xx hm (sz _)⟩)
def LeI (key:wM->O.α)(a b:Array wM)(st:w9)(n:Nat)(c:LoE)(st':w9):Prop:=Sm st st'/\∃o x y mg,c=(none,o,x,y,mg)/\MW key a b o x y/\x+1<a.size/\y<b.size/\n+1<=o.size
def LeQ (key:wM->O.α)(a b:Array wM)(st:w9)(c:LoE)(st':w9):Prop:=Sm st st'/\((∃r o x y mg,c=(some r,o,x,y,mg)/\dw key a b r)\/∃o x y mg,c=(none,o,x,y,mg)/\MW key a b o x y/\x+1<a.size/\y<b.size/\a.size+b.size+1<=o.size)
theorem pM (C:Cmp prog w A s O key U κ){a b:Array wM}{st st':w9}(hκ:kindOf st=κ)(ua:∀p∈a.toList,U p)(ub:∀p∈b.toList,U p)
  (ha:a.toList.Pairwise (Le key)) (hb:b.toList.Pairwise (Le key)) (na:0<a.size) (hl:∀p q,p∈b.toList->a[a.size-1]? = some q->Le key p q)
  {n:Nat} {c:LoE} (I:LeI key a b st n c st'):wpS (xk prog w) A E s (m6 a b c) (λr st'=>match r with | .done c'=>LeQ key a b st c' st' | .yield c'=>LeI key a b st (n+1) c' st') st':=by
 obtain ⟨sm1,o,x,y,mg,rfl,m,hx,hy,hz⟩:=I
 unfold m6
 have q1:1<=a.size+b.size:=xx na (y6 _ _)
 refine wK (yI (xV (I:=λj c st'=>LdI key a b st (o.size+min j 1) c st') (Q:=LdQ key a b st (o.size+1)) (λj c st2 _ hj J=>qT (n:=o.size+min j 1) (m':=o.size+min (j+1) 1) C hκ ua ub ha hb hl J (by lia) λr st' k =>?_) (λc st' J =>?_) ⟨sm1,o,x,y,0,0,rfl,m,hx,hy,wq _⟩) ?_)
 ·cases r with
  | done c'=>exact k.imp id λz=>z.imp id λ⟨o',x,y,ac,bc,e,m,hx,hy,hz⟩=>⟨o',x,y,ac,bc,e,m,hx,hy,by lia⟩
  | yield c'=>exact k
 ·obtain ⟨sm,o',x,y,ac,bc,e,m,hx,hy,hz⟩:=J
  exact ⟨sm,.inr ⟨o',x,y,ac,bc,e,m,hx,hy,by lia⟩⟩
 rintro c st2 ⟨sm2,⟨r,o',x,y,ac,bc,rfl,fr⟩ | ⟨o',x,y,ac,bc,rfl,m,hx,hy,hz2⟩⟩
 ·exact wQ ⟨sm2,.inl ⟨_,_,_,_,_,rfl,fr⟩⟩
 dsimp only
 refine wK (B8 (zS ⟨rfl,?_⟩))
 refine wK (yI (xV (I:=λ_ c st'=>LoQ key a b st o'.size (.yield c) st') (Q:=λc st'=>LoQ key a b st o'.size (.done c) st') (λj c st3 _ hj J =>?_) (λc st' J=>⟨J.1,.inr J.2⟩) ⟨sm2,o',x,y,_,ac,bc,rfl,m,hx,hy,wq _⟩) ?_)
 ·obtain ⟨sm3,p,x,y,mg,ac,bc,rfl,m,hx,hy,hz3⟩:=J
  refine yI (sR C hκ ua ub ha hb hl sm3 m hx hy hz3) ?_
  intro r st' h
  cases r <;> exact h
 rintro c st3 ⟨sm3,⟨r,p,x,y,mg,ac,bc,rfl,fr⟩ | ⟨p,x,y,mg,ac,bc,rfl,m,hx,hy,hz3⟩⟩
 ·exact wQ ⟨sm3,.inl ⟨_,_,_,_,_,rfl,fr⟩⟩
 ·dsimp only
  exact wK (yV (wQ ⟨sm3.mg _,p,x,y,_,rfl,m,hx,hy,by lia⟩))
theorem uU (C:Cmp prog w A s O key U κ){a b:Array wM}{st:w9}{Q:Array wM->w9->Prop}(hκ:kindOf st=κ)(ua:∀p∈a.toList,U p)(ub:∀p∈b.toList,U p)
  (ha:a.toList.Pairwise (Le key)) (hb:b.toList.Pairwise (Le key)) (na:0<a.size) (nb:0<b.size) (h0:∀p q,b[0]? = some p->a[0]? = some q->Le key p q) (hl:∀p q,p∈b.toList->a[a.size-1]? = some q->Le key p q)
  (h:∀r st',Sm st st'->dw key a b r->Q r st'):wpS (xk prog w) A E s (mLo a b) Q st:=by
 rw[sS]
 refine wK (B8 (zS ⟨rfl,?_⟩))
 obtain ⟨b0,eb0⟩:=a9 nb
 obtain ⟨a0,ea0⟩:=a9 na
 have a0le:∀t∈a.toList,Le key a0 t:=λt ht=>by
  obtain ⟨i,e⟩:=xI.mp ht
  exact aM ha (aJ ea0) e (xH _)
 have m0:MW key a b #[] 0 0:=⟨xH _,xH _,A9 _,List.Pairwise.nil,λp hp=>by cases hp⟩
 have m1:MW key a b #[b0] 0 1:=m0.jZ eb0 hb λt ht=>xo (h0 _ _ eb0 ea0) (a0le t ht)
 refine wK (a6 eb0 ?_)
 by_cases c1:(1 == b.size)=true
 ·rw[if_pos c1]
  exact wQ (h _ st (Sm.refl st) (m1.pJ ha (beq_iff_eq.mp c1)))
 rw[if_neg c1]
 by_cases c2:(0+1 == a.size)=true
 ·rw[if_pos c2]
  exact wQ (h _ st (Sm.refl st) (m1.last ha hb (beq_iff_eq.mp c2) hl))
 rw[if_neg c2]
 refine wK (Bz ?_)
 refine wK (yI (xV (I:=λi c st'=>LeI key a b st i c st') (Q:=LeQ key a b st) (λi c st1 _ _ J=>yI (pM C hκ ua ub ha hb na hl J) λr st' h=>by cases r <;> exact h) (λc st' J =>?_) ⟨Sm.refl st,_,_,_,_,rfl,m1,ltq na c2,ltq nb c1,wq _⟩) ?_)
 ·obtain ⟨sm,o,x,y,mg,e,m,hx,hy,hz⟩:=J
  exact ⟨sm,.inr ⟨o,x,y,mg,e,m,hx,hy,by lia⟩⟩
 rintro c st' ⟨sm,⟨r,o,x,y,mg,rfl,fr⟩ | ⟨o,x,y,mg,rfl,m,hx,hy,hz⟩⟩
 ·exact wQ (h r st' sm fr)
 ·have:=m.size
  lia
end
open PySem PyProof.Rows
section
variable  {O:A5}(key:wM->O.α)
structure MV (a b o:Array wM)(x y:Nat):Prop where
 hx:x<=a.size
 hy:y<=b.size
 perm:((a.toList.take x++b.toList.take y)++o.toList.reverse).Perm (a.toList++b.toList)
 sorted:o.toList.reverse.Pairwise (Le key)
 above:∀p∈a.toList.take x++b.toList.take y,∀q∈o.toList.reverse,Le key p q
variable  {key}
theorem MV.fin {a b o:Array wM}{x y:Nat}(m:MV key a b o x y){t:List wM}{r:Array wM}(hr:r.toList=t++o.toList.reverse)(ht:t.Perm (a.toList.take x++b.toList.take y))(hs:t.Pairwise (Le key)):dw key a b r:=by
 unfold dw
 rw[hr]
 exact ⟨(yY _ ht).trans m.perm,yc.mpr ⟨hs,m.sorted,λp hp q hq=>m.above p (ht.mem_iff.mp hp) q hq⟩⟩
theorem MV.take {a b o:Array wM}{x y x' y':Nat}(m:MV key a b o x y){t:List wM}{r:Array wM}(hr:r.toList.reverse=t++o.toList.reverse)(hx:x'<=a.size)(hy:y'<=b.size)
  (ht:((a.toList.take x'++b.toList.take y')++t).Perm (a.toList.take x++b.toList.take y)) (hs:t.Pairwise (Le key)) (hb:∀p∈a.toList.take x'++b.toList.take y',∀q∈t,Le key p q):MV key a b r x' y':=by
 have sub:∀z,z∈a.toList.take x'++b.toList.take y'\/z∈t->z∈a.toList.take x++b.toList.take y:=λz hz=>ht.mem_iff.mp (wC.mpr hz)
 refine ⟨hx,hy,?_,?_,?_⟩
 ·rw[hr, <- xc]
  exact (yY _ ht).trans m.perm
 ·rw[hr]
  exact yc.mpr ⟨hs,m.sorted,λp hp q hq=>m.above p (sub p (.inr hp)) q hq⟩
 ·rw[hr]
  intro p hp z hz
  rcases wC.mp hz with h | h
  ·exact hb p hp z h
  ·exact m.above p (sub p (.inl hp)) z h
theorem ba {l:List wM}{k:Nat}{t:wM}(h:t∈l.take k):∃j,j<k/\l[j]? = some t:=by
 obtain ⟨n,e⟩:=xI.mp h
 rw[yz] at e
 split at e
 ·exact ⟨n,by omega,e⟩
 ·cases e
theorem j0 {l:List wM}{x:Nat}{z:wM}(hx:1<=x)(h:l[x-1]? = some z):l.take x=l.take (x-1)++[z]:=by
 obtain ⟨n,rfl⟩:∃n,x=n+1:=⟨x-1,by lia⟩
 rw[Nat.add_sub_cancel] at h ⊢
 rw[yS,h]
 rfl
theorem ou (a:Array wM)(c x:Nat)(hx:x<=a.size):(a.extract c x).toList=(a.toList.take x).drop c:=by
 rw[yM,yo,List.drop_take]
theorem fC (a:Array wM)(x:Nat):(a.extract 0 x).toList=a.toList.take x:=by
 rw[yM,yo,Ba,Nat.sub_zero]
theorem MV.ij {a b o:Array wM}{x y:Nat}{z:wM}(m:MV key a b o x y)(h1:1<=x)(h:a[x-1]? = some z)(ha:a.toList.Pairwise (Le key))(hb:∀t∈b.toList.take y,Le key t z):MV key a b (o.push z) (x-1) y:=by
 have e:=j0 h1 (aJ h)
 refine m.take (t:=[z]) (by rw[zf,zX];rfl) (by have:=m.hx;lia) m.hy ?_ (yQ _ _) λp hp q hq =>?_
 ·rw[e,xc,xc]
  exact yJ _ zK
 ·have eq:q=z:=by simpa using hq
  subst eq
  rcases wC.mp hp with r | r
  ·obtain ⟨j,hj,e2⟩:=ba r
   exact aM ha e2 (aJ h) (by lia)
  ·exact hb p r
theorem MV.jZ {a b o:Array wM}{x y:Nat}{z:wM}(m:MV key a b o x y)(h1:1<=y)(h:b[y-1]? = some z)(hb:b.toList.Pairwise (Le key))(ha:∀t∈a.toList.take x,Le key t z):MV key a b (o.push z) x (y-1):=by
 have e:=j0 h1 (aJ h)
 refine m.take (t:=[z]) (by rw[zf,zX];rfl) m.hx (by have:=m.hy;lia) ?_ (yQ _ _) λp hp q hq =>?_
 ·rw[e,xc]
 ·have eq:q=z:=by simpa using hq
  subst eq
  rcases wC.mp hp with r | r
  ·exact ha p r
  ·obtain ⟨j,hj,e2⟩:=ba r
   exact aM hb e2 (aJ h) (by lia)
theorem ow (l:List wM){c x:Nat}(h:c<=x):l.take x=l.take c++(l.take x).drop c:=by
 have e:(l.take x).take c=l.take c:=by rw[List.take_take,Nat.min_eq_left h]
 rw[<- e,yK]
theorem iZ {l:List wM}{c x:Nat}{t:wM}(h:t∈(l.take x).drop c):∃j,c<=j/\j<x/\l[j]? = some t:=by
 obtain ⟨j,hj,e⟩:=aZ h
 rw[yz] at e
 split at e
 ·exact ⟨j,hj,by omega,e⟩
 ·cases e
theorem MV.qQ {a b o:Array wM}{x y c:Nat}(m:MV key a b o x y)(hc:c<=x)(ha:a.toList.Pairwise (Le key))(hb:∀j p,c<=j->j<x->a.toList[j]? = some p->∀t∈b.toList.take y,Le key t p):MV key a b (o++(a.extract c x).reverse) c y:=by
 refine m.take (t:=(a.toList.take x).drop c) (by rw[xp,zX,zd,Cc,ou _ _ _ m.hx]) (xx hc m.hx) m.hy ?_ ?_ λp hp q hq =>?_
 ·refine List.Perm.trans ?_ (yY _ (List.Perm.of_eq (ow a.toList hc).symm))
  rw[xc,xc]
  exact yJ _ zK
 ·exact ha.sublist ((xS _ _).trans (xR _ _))
 ·obtain ⟨j,h1,h2,e⟩:=iZ hq
  rcases wC.mp hp with r | r
  ·obtain ⟨i,hi,e2⟩:=ba r
   exact aM ha e2 e (by lia)
  ·exact hb j q h1 h2 e p r
theorem MV.qR {a b o:Array wM}{x y c:Nat}(m:MV key a b o x y)(hc:c<=y)(hb:b.toList.Pairwise (Le key))(ha:∀j p,c<=j->j<y->b.toList[j]? = some p->∀t∈a.toList.take x,Le key t p):MV key a b (o++(b.extract c y).reverse) x c:=by
 refine m.take (t:=(b.toList.take y).drop c) (by rw[xp,zX,zd,Cc,ou _ _ _ m.hy]) m.hx (xx hc m.hy) ?_ ?_ λp hp q hq =>?_
 ·rw[xc, <- ow b.toList hc]
 ·exact hb.sublist ((xS _ _).trans (xR _ _))
 ·obtain ⟨j,h1,h2,e⟩:=iZ hq
  rcases wC.mp hp with r | r
  ·exact ha j q h1 h2 e p r
  ·obtain ⟨i,hi,e2⟩:=ba r
   exact aM hb e2 e (by lia)
theorem MV.pK {a b o:Array wM}{x y:Nat}(m:MV key a b o x y)(hb:b.toList.Pairwise (Le key))(hx:x=0):dw key a b (a.extract 0 x++b.extract 0 y++o.reverse):=by
 subst hx
 refine m.fin (t:=b.toList.take y) (by rw[xp,xp,fC,fC,zd,Bb,Ad]) (by rw[Bb,Ad]) (hb.sublist (xR _ _))
theorem MV.pJ {a b o:Array wM}{x y:Nat}(m:MV key a b o x y)(ha:a.toList.Pairwise (Le key))(hy:y=0):dw key a b (a.extract 0 x++b.extract 0 y++o.reverse):=by
 subst hy
 refine m.fin (t:=a.toList.take x) (by rw[xp,xp,fC,fC,zd,Bb,xM]) (by rw[Bb,xM]) (ha.sublist (xR _ _))
theorem MV.first {a b o:Array wM}{x y:Nat}(m:MV key a b o x y)(ha:a.toList.Pairwise (Le key))(hb:b.toList.Pairwise (Le key))(hy:y=1)(hl:∀p q,b[0]? = some p->q∈a.toList->Le key p q):dw key a b (b.extract 0 y++a.extract 0 x++o.reverse):=by
 refine m.fin (t:=b.toList.take y++a.toList.take x) (by rw[xp,xp,fC,fC,zd]) zK ?_
 refine yc.mpr ⟨hb.sublist (xR _ _),ha.sublist (xR _ _),λp hp q hq=>hl p q ?_ (yO hq)⟩
 obtain ⟨i,hi,e⟩:=ba hp
 rw[wI] at e
 rw[show i=0 by lia] at e
 exact e
theorem MV.size {a b o:Array wM}{x y:Nat}(m:MV key a b o x y):o.size+x+y=a.size+b.size:=by
 have e:=m.perm.length_eq
 have h1:=m.hx
 have h2:=m.hy
 simp only[wj,xX,wy,zt] at e
 lia
end
open PySem PyProof.Rows
section
variable  {prog:wL}{w:xg}{A:xF}{E:wm->wu->Prop}{s:wu}{O:A5}{key:wM->O.α}{U:wM->Prop}{κ:SortKind}
abbrev HiC:=Option (Array wM)×Nat×Nat×Array wM×Nat×Nat×Nat
def sT (a b:Array wM)(x y:Nat)(o:Array wM)(mg ac bc:Nat):StateT w9 Sem (ForInStep HiC):=do
  let z ← elem' a (x-1)
  if (x-1 == 0)=true then pure (.done (some (a.extract 0 (x-1)++b.extract 0 y++(o.push z).reverse),x-1,y,o.push z,mg,ac,bc))
  else if (decide (ac<7) && decide (bc<7))=true then pure (.done (none,x-1,y,o.push z,mg,ac,bc))
  else pure (.yield (none,x-1,y,o.push z,mg,ac,bc))
def sU (a b:Array wM)(x y:Nat)(o:Array wM)(mg ac bc:Nat):StateT w9 Sem (ForInStep HiC):=do
  let z ← elem' b (y-1)
  if (y-1 == 1)=true then pure (.done (some (b.extract 0 (y-1)++a.extract 0 x++(o.push z).reverse),x,y-1,o.push z,mg,ac,bc))
  else do
    let z2 ← elem' a (x-1)
    let __x ← gal true z2 b 0 (y-1) (y-1-1)
    match __x with
    | some c =>
      if y-1-c>0 then
        if (c == 1)=true then pure (.done (some (b.extract 0 c++a.extract 0 x++(o.push z++(b.extract c (y-1)).reverse).reverse),x,c,o.push z++(b.extract c (y-1)).reverse,mg,ac,y-1-c))
        else if (c == 0)=true then pure (.done (some (a.extract 0 x++b.extract 0 c++(o.push z++(b.extract c (y-1)).reverse).reverse),x,c,o.push z++(b.extract c (y-1)).reverse,mg,ac,y-1-c))
        else sT a b x c (o.push z++(b.extract c (y-1)).reverse) mg ac (y-1-c)
      else sT a b x (y-1) (o.push z) mg ac (y-1-c)
    | _=>pure (.done (some (a.extract 0 x++b.extract 0 (y-1)++(o.push z).reverse),x,y-1,o.push z,mg,ac,bc))
def pN (a b:Array wM)(x y:Nat)(p:Array wM)(ac bc mg:Nat):StateT w9 Sem (ForInStep HiC):=do
  modify (λs=>SortSt.mk' (kindOf s) (wU s) (wW s) mg (failedOf s))
  let z ← elem' b (y-1)
  let __x ← gal false z a 0 x (x-1)
  match __x with
  | some c =>
    if x-c>0 then
      if (c == 0)=true then pure (.done (some (a.extract 0 c++b.extract 0 y++(p++(a.extract c x).reverse).reverse),c,y,p++(a.extract c x).reverse,mg,x-c,bc))
      else sU a b c y (p++(a.extract c x).reverse) mg (x-c) bc
    else sU a b x y p mg (x-c) bc
  | _=>pure (.done (some (a.extract 0 x++b.extract 0 y++p.reverse),x,y,p,mg,ac,bc))
def HiQ (key:wM->O.α)(a b:Array wM)(st:w9)(n:Nat)(r:ForInStep HiC)(st':w9):Prop:=match r with
 | .done c=>Sm st st'/\((∃r x y p mg ac bc,c=(some r,x,y,p,mg,ac,bc)/\dw key a b r)\/∃x y p mg ac bc,c=(none,x,y,p,mg,ac,bc)/\MV key a b p x y/\1<=x/\2<=y/\n<=p.size)
 | .yield c=>Sm st st'/\∃x y p mg ac bc,c=(none,x,y,p,mg,ac,bc)/\MV key a b p x y/\1<=x/\2<=y/\n<=p.size
theorem HiQ.out {a b:Array wM}{st st':w9}{n:Nat}{r:Array wM}{c:Nat×Nat×Array wM×Nat×Nat×Nat}(sm:Sm st st')(f:dw key a b r):HiQ key a b st n (.done (some r,c)) st':=by
 obtain ⟨p,x,y,mg,ac,bc⟩:=c
 exact ⟨sm,.inl ⟨_,_,_,_,_,_,_,rfl,f⟩⟩
theorem qU {x:Nat}(c:¬ (x == 0)=true):1<=x:=CB λz=>c (beq_iff_eq.mpr z)
theorem sV {y:Nat}(h:1<=y)(c:¬ (y == 1)=true):2<=y:=CA h λz=>c (beq_iff_eq.mpr z.symm)
theorem ox {a b:Array wM}{st st':w9}(hb:b.toList.Pairwise (Le key))
  {o:Array wM} {x y mg ac bc n:Nat} {za:wM} (sm:Sm st st') (ea:a[x-1]? = some za) (m4:MV key a b (o.push za) (x-1) y) (hy:2<=y) (hn:n<=o.size):wpS (xk prog w) A E s (sT a b x y o mg ac bc) (HiQ key a b st n) st':=by
 unfold sT
 refine wK (a6 ea ?_)
 by_cases d5:(x-1 == 0)=true
 ·rw[if_pos d5]
  exact wQ (HiQ.out sm (m4.pK hb (beq_iff_eq.mp d5)))
 rw[if_neg d5]
 have hx2:=qU d5
 have hn':n<=(o.push za).size:=by rw[zL];exact Ap hn
 split
 ·exact wQ ⟨sm,.inr ⟨_,_,_,_,_,_,rfl,m4,hx2,hy,hn'⟩⟩
 ·exact wQ ⟨sm,_,_,_,_,_,_,rfl,m4,hx2,hy,hn'⟩
theorem oy (C:Cmp prog w A s O key U κ){a b:Array wM}{st st':w9}(hκ:kindOf st=κ)(ua:∀p∈a.toList,U p)(ub:∀p∈b.toList,U p)
  (ha:a.toList.Pairwise (Le key)) (hb:b.toList.Pairwise (Le key)) (h0:∀p q,b[0]? = some p->q∈a.toList->Le key p q)
  {o:Array wM} {x y mg ac bc n:Nat} {zb:wM} (sm:Sm st st') (eb:b[y-1]? = some zb) (mk:MV key a b o x y) (bl:∀t∈a.toList.take x,Le key t zb) (hx1:1<=x) (hy:2<=y) (hn:n<=o.size):wpS (xk prog w) A E s (sU a b x y o mg ac bc) (HiQ key a b st n) st':=by
 unfold sU
 refine wK (a6 eb ?_)
 have m2:=mk.jZ (CW hy) eb hb bl
 have y1:1<=y-1:=yP hy
 have bx1:=mk.hx
 have by1:=mk.hy
 by_cases d3:(y-1 == 1)=true
 ·rw[if_pos d3]
  exact wQ (HiQ.out sm (m2.first ha hb (beq_iff_eq.mp d3) h0))
 rw[if_neg d3]
 have hy1:=sV y1 d3
 obtain ⟨za,ea⟩:=a9 (show x-1<a.size by lia)
 refine wK (a6 ea ?_)
 refine wK (uS C (λi=>(b[i]?).getD za) (sm.k.trans hκ) (ua _ (bJ ea)) (λi hi =>?_) (λi hi =>?_) (λi j hij hj =>?_) (AB y1) λc2 hc2 g1 g2 =>?_)
 ·obtain ⟨z,e⟩:=a9 (show i<b.size by lia)
  rw[zo,e];rfl
 ·obtain ⟨z,e⟩:=a9 (show i<b.size by lia)
  rw[e];exact ub _ (bJ e)
 ·obtain ⟨z,e⟩:=a9 (show i<b.size by lia)
  obtain ⟨z',e'⟩:=a9 (show j<b.size by lia)
  rw[e,e'];exact aM hb (aJ e) (aJ e') hij
 dsimp only at g1 g2 ⊢
 have tb:∀j q,c2<=j->j<y-1->b.toList[j]? = some q->∀t∈a.toList.take x,Le key t q:=λj q hj hj2 e t ht=>by
  have z:=g2 j hj hj2
  rw[wI] at e
  rw[e] at z
  obtain ⟨n,hn,e2⟩:=ba ht
  exact xo (aM ha e2 (aJ ea) (yP hn)) z
 have m3:=m2.qR hc2 hb tb
 have bl2:∀t∈b.toList.take c2,Le key t za:=λt ht=>by
  obtain ⟨n,hn,e2⟩:=ba ht
  rw[wI] at e2
  have z:=g1 n hn
  rw[e2] at z
  exact x8 z
 have hn1:n<=(o.push zb).size:=by rw[zL];exact Ap hn
 by_cases k2:y-1-c2>0
 ·rw[if_pos k2]
  by_cases d4:(c2 == 1)=true
  ·rw[if_pos d4]
   exact wQ (HiQ.out sm (m3.first ha hb (beq_iff_eq.mp d4) h0))
  rw[if_neg d4]
  by_cases d6:(c2 == 0)=true
  ·rw[if_pos d6]
   exact wQ (HiQ.out sm (m3.pJ ha (beq_iff_eq.mp d6)))
  rw[if_neg d6]
  exact ox hb sm ea (m3.ij hx1 ea ha bl2) (sV (qU d6) d4) (xx hn1 (by rw[zO];exact y6 _ _))
 ·rw[if_neg k2]
  have ec2:c2=y-1:=BP hc2 (BQ (zA k2))
  rw[ec2] at bl2
  exact ox hb sm ea (m2.ij hx1 ea ha bl2) hy1 hn1
theorem oz (C:Cmp prog w A s O key U κ){a b:Array wM}{st st':w9}(hκ:kindOf st=κ)(ua:∀p∈a.toList,U p)(ub:∀p∈b.toList,U p)
  (ha:a.toList.Pairwise (Le key)) (hb:b.toList.Pairwise (Le key)) (h0:∀p q,b[0]? = some p->q∈a.toList->Le key p q)
  {p:Array wM} {x y ac bc n:Nat} (mg:Nat) (sm:Sm st st') (m:MV key a b p x y) (hx:1<=x) (hy:2<=y) (hn:n<=p.size):wpS (xk prog w) A E s (pN a b x y p ac bc mg) (HiQ key a b st n) st':=by
 unfold pN
 have bx:=m.hx
 have by':=m.hy
 obtain ⟨zb,eb⟩:=a9 (show y-1<b.size by lia)
 refine wK (yV ?_)
 refine wK (a6 eb ?_)
 refine wK (uQ C (λi=>(a[i]?).getD zb) ((sm.mg _).k.trans hκ) (ub _ (bJ eb)) (λi hi =>?_) (λi hi =>?_) (λi j hij hj =>?_) (AB hx) λc hc h1 h2 =>?_)
 ·obtain ⟨z,e⟩:=a9 (wO hi bx)
  rw[zo,e];rfl
 ·obtain ⟨z,e⟩:=a9 (wO hi bx)
  rw[e];exact ua _ (bJ e)
 ·obtain ⟨z,e⟩:=a9 (show i<a.size by lia)
  obtain ⟨z',e'⟩:=a9 (show j<a.size by lia)
  rw[e,e'];exact aM ha (aJ e) (aJ e') hij
 dsimp only at h1 h2 ⊢
 have ta:∀j q,c<=j->j<x->a.toList[j]? = some q->∀t∈b.toList.take y,Le key t q:=λj q hj hj2 e t ht=>by
  have z:=h2 j hj hj2
  rw[wI] at e
  rw[e] at z
  obtain ⟨n,hn,e2⟩:=ba ht
  exact xo (aM hb e2 (aJ eb) (yP hn)) (x8 z)
 have mk:=m.qQ hc ha ta
 have bl:∀t∈a.toList.take c,Le key t zb:=λt ht=>by
  obtain ⟨n,hn,e2⟩:=ba ht
  rw[wI] at e2
  have z:=h1 n hn
  rw[e2] at z
  exact z
 by_cases k0:x-c>0
 ·rw[if_pos k0]
  by_cases d1:(c == 0)=true
  ·rw[if_pos d1]
   exact wQ (HiQ.out (sm.mg _) (mk.pK hb (beq_iff_eq.mp d1)))
  rw[if_neg d1]
  exact oy C hκ ua ub ha hb h0 (sm.mg _) eb mk bl (qU d1) hy (xx hn (by rw[zO];exact y6 _ _))
 ·rw[if_neg k0]
  have ec:c=x:=BP hc (BQ (zA k0))
  rw[ec] at bl
  exact oy C hκ ua ub ha hb h0 (sm.mg _) eb m bl hx hy hn
theorem sW (C:Cmp prog w A s O key U κ){a b:Array wM}{st st':w9}(hκ:kindOf st=κ)(ua:∀p∈a.toList,U p)(ub:∀p∈b.toList,U p)
  (ha:a.toList.Pairwise (Le key)) (hb:b.toList.Pairwise (Le key)) (h0:∀p q,b[0]? = some p->q∈a.toList->Le key p q)
  {p:Array wM} {x y ac bc n mg:Nat} (sm:Sm st st') (m:MV key a b p x y) (hx:1<=x) (hy:2<=y) (hn:n<=p.size):wpS (xk prog w) A E s (if mg>1 then pN a b x y p ac bc (mg-1) else pN a b x y p ac bc mg) (HiQ key a b st n) st':=by
 split
 ·exact oz C hκ ua ub ha hb h0 (mg-1) sm m hx hy hn
 ·exact oz C hκ ua ub ha hb h0 mg sm m hx hy hn
abbrev HiD:=Option (Array wM)×Nat×Nat×Array wM×Nat×Nat
abbrev HiE:=Option (Array wM)×Nat×Nat×Array wM×Nat
def qV (a b:Array wM)(mg:Nat)(c:HiD):StateT w9 Sem (ForInStep HiD):=do
  let u ← elem' b (c.2.2.1-1)
  let v ← elem' a (c.2.1-1)
  let __x ← lt' u v
  match __x with
  | some aw =>
    if aw=true then do
      let z ← elem' a (c.2.1-1)
      if (c.2.1-1 == 0)=true then pure (.done (some (a.extract 0 (c.2.1-1)++b.extract 0 c.2.2.1++(c.2.2.2.1.push z).reverse),c.2.1-1,c.2.2.1,c.2.2.2.1.push z,c.2.2.2.2.1+1,0))
      else if c.2.2.2.2.1+1≥mg then pure (.done (none,c.2.1-1,c.2.2.1,c.2.2.2.1.push z,c.2.2.2.2.1+1,0))
      else pure (.yield (none,c.2.1-1,c.2.2.1,c.2.2.2.1.push z,c.2.2.2.2.1+1,0))
    else do
      let z ← elem' b (c.2.2.1-1)
      if (c.2.2.1-1 == 1)=true then pure (.done (some (b.extract 0 (c.2.2.1-1)++a.extract 0 c.2.1++(c.2.2.2.1.push z).reverse),c.2.1,c.2.2.1-1,c.2.2.2.1.push z,0,c.2.2.2.2.2+1))
      else if c.2.2.2.2.2+1≥mg then pure (.done (none,c.2.1,c.2.2.1-1,c.2.2.2.1.push z,0,c.2.2.2.2.2+1))
      else pure (.yield (none,c.2.1,c.2.2.1-1,c.2.2.2.1.push z,0,c.2.2.2.2.2+1))
  | _=>pure (.done (some (a.extract 0 c.2.1++b.extract 0 c.2.2.1++c.2.2.2.1.reverse),c.2.1,c.2.2.1,c.2.2.2.1,c.2.2.2.2.1,c.2.2.2.2.2))
def uV (a b:Array wM)(c:HiC):StateT w9 Sem (ForInStep HiC) :=
 if c.2.2.2.2.1>1 then pN a b c.2.1 c.2.2.1 c.2.2.2.1 c.2.2.2.2.2.1 c.2.2.2.2.2.2 (c.2.2.2.2.1-1) else pN a b c.2.1 c.2.2.1 c.2.2.2.1 c.2.2.2.2.2.1 c.2.2.2.2.2.2 c.2.2.2.2.1
def m7 (a b:Array wM)(c:HiE):StateT w9 Sem (ForInStep HiE):=do
  let d ← forIn [0:a.size+b.size] ((none,c.2.1,c.2.2.1,c.2.2.2.1,0,0):HiD) λ_ d=>qV a b c.2.2.2.2 d
  match d.1 with
  | some r=>pure (.done (some r,d.2.1,d.2.2.1,d.2.2.2.1,c.2.2.2.2))
  | none=>do
    rule "list.sort.gallop"
    let e ← forIn [0:a.size+b.size] ((none,d.2.1,d.2.2.1,d.2.2.2.1,c.2.2.2.2+1,d.2.2.2.2.1,d.2.2.2.2.2):HiC) λ_ e=>uV a b e
    match e.1 with
    | some r=>pure (.done (some r,e.2.1,e.2.2.1,e.2.2.2.1,e.2.2.2.2.1))
    | none=>do
      modify (λs=>SortSt.mk' (kindOf s) (wU s) (wW s) (e.2.2.2.2.1+1) (failedOf s))
      pure (.yield (none,e.2.1,e.2.2.1,e.2.2.2.1,e.2.2.2.2.1+1))
theorem sZ (a b:Array wM):mHi a b=(do
    rule "list.sort.merge-hi"
    let z ← elem' a (a.size-1)
    if (a.size-1 == 0)=true then pure (a.extract 0 (a.size-1)++b.extract 0 b.size++(#[z]:Array wM).reverse)
    else if (b.size == 1)=true then pure (b.extract 0 b.size++a.extract 0 (a.size-1)++(#[z]:Array wM).reverse)
    else do
      let g ← get
      let c ← forIn [0:a.size+b.size] ((none,a.size-1,b.size, #[z],gallopOf g):HiE) λ_ c=>m7 a b c
      match c.1 with
      | some r=>pure r
      | none=>unsupported "internal:list.sort.merge-bound"):=by
  kernel_rfl
def HdI (key:wM->O.α)(a b:Array wM)(st:w9)(n:Nat)(c:HiD)(st':w9):Prop:=Sm st st'/\∃x y o' ac bc,c=(none,x,y,o',ac,bc)/\MV key a b o' x y/\1<=x/\2<=y/\n<=o'.size
def HdQ (key:wM->O.α)(a b:Array wM)(st:w9)(n:Nat)(c:HiD)(st':w9):Prop:=Sm st st'/\((∃r x y o ac bc,c=(some r,x,y,o,ac,bc)/\dw key a b r)\/∃x y o' ac bc,c=(none,x,y,o',ac,bc)/\MV key a b o' x y/\1<=x/\2<=y/\n<=o'.size)
theorem qW (C:Cmp prog w A s O key U κ){a b:Array wM}{st st':w9}(hκ:kindOf st=κ)(ua:∀p∈a.toList,U p)(ub:∀p∈b.toList,U p)
  (ha:a.toList.Pairwise (Le key)) (hb:b.toList.Pairwise (Le key)) (h0:∀p q,b[0]? = some p->q∈a.toList->Le key p q)
  {mg n m':Nat} {c:HiD} (I:HdI key a b st n c st') (hm:m'<=n+1) {Q:ForInStep HiD->w9->Prop} (h:∀r st',(match r with | .done c'=>HdQ key a b st (n+1) c' st' | .yield c'=>HdI key a b st m' c' st')->Q r st'):wpS (xk prog w) A E s (qV a b mg c) Q st':=by
 obtain ⟨sm2,x,y,o',ac,bc,rfl,m,hx,hy,hz⟩:=I
 unfold qV
 have bx:=m.hx
 have by':=m.hy
 obtain ⟨za,ea⟩:=a9 (show x-1<a.size by omega)
 obtain ⟨zb,eb⟩:=a9 (show y-1<b.size by omega)
 refine wK (a6 eb (wK (a6 ea (wK (C.lt _ st' zb za _ (sm2.k.trans hκ) (ub _ (bJ eb)) (ua _ (bJ ea)) ?_)))))
 dsimp only
 have sz:∀z,n+1<=(o'.push z).size:=λz=>by rw[zL];exact Dd hz
 cases hlt:O.blt (key zb) (key za) with
 | true =>
  rw[if_pos rfl]
  refine wK (a6 ea ?_)
  have m1:=m.ij hx ea ha λt ht=>by
   obtain ⟨n,hn,e⟩:=ba ht
   exact xo (aM hb e (aJ eb) (yP hn)) (x8 hlt)
  by_cases c3:(x-1 == 0)=true
  ·rw[if_pos c3]
   exact wQ (h _ _ ⟨sm2,.inl ⟨_,_,_,_,_,_,rfl,m1.pK hb (beq_iff_eq.mp c3)⟩⟩)
  ·rw[if_neg c3]
   have c3':=qU c3
   split
   ·exact wQ (h _ _ ⟨sm2,.inr ⟨_,_,_,_,_,rfl,m1,c3',hy,sz _⟩⟩)
   ·exact wQ (h _ _ ⟨sm2,_,_,_,_,_,rfl,m1,c3',hy,xx hm (sz _)⟩)
 | false =>
  rw[if_neg wG]
  refine wK (a6 eb ?_)
  have m1:=m.jZ (CW hy) eb hb λt ht=>by
   obtain ⟨n,hn,e⟩:=ba ht
   exact xo (aM ha e (aJ ea) (yP hn)) (show O.kle (key za) (key zb) from hlt)
  by_cases c3:(y-1 == 1)=true
  ·rw[if_pos c3]
   exact wQ (h _ _ ⟨sm2,.inl ⟨_,_,_,_,_,_,rfl,m1.first ha hb (beq_iff_eq.mp c3) h0⟩⟩)
  ·rw[if_neg c3]
   have c3':=sV (yP hy) c3
   split
   ·exact wQ (h _ _ ⟨sm2,.inr ⟨_,_,_,_,_,rfl,m1,hx,c3',sz _⟩⟩)
   ·exact wQ (h _ _ ⟨sm2,_,_,_,_,_,rfl,m1,hx,c3',xx hm (sz _)⟩)
def HeI (key:wM->O.α)(a b:Array wM)(st:w9)(n:Nat)(c:HiE)(st':w9):Prop:=Sm st st'/\∃x y o mg,c=(none,x,y,o,mg)/\MV key a b o x y/\1<=x/\2<=y/\n+1<=o.size
def HeQ (key:wM->O.α)(a b:Array wM)(st:w9)(c:HiE)(st':w9):Prop:=Sm st st'/\((∃r x y o mg,c=(some r,x,y,o,mg)/\dw key a b r)\/∃x y o mg,c=(none,x,y,o,mg)/\MV key a b o x y/\1<=x/\2<=y/\a.size+b.size+1<=o.size)
theorem pO (C:Cmp prog w A s O key U κ){a b:Array wM}{st st':w9}(hκ:kindOf st=κ)(ua:∀p∈a.toList,U p)(ub:∀p∈b.toList,U p)
  (ha:a.toList.Pairwise (Le key)) (hb:b.toList.Pairwise (Le key)) (h0:∀p q,b[0]? = some p->q∈a.toList->Le key p q) (na:0<a.size)
  {n:Nat} {c:HiE} (I:HeI key a b st n c st'):wpS (xk prog w) A E s (m7 a b c) (λr st'=>match r with | .done c'=>HeQ key a b st c' st' | .yield c'=>HeI key a b st (n+1) c' st') st':=by
 obtain ⟨sm1,x,y,o,mg,rfl,m,hx,hy,hz⟩:=I
 unfold m7
 have q1:1<=a.size+b.size:=xx na (y6 _ _)
 refine wK (yI (xV (I:=λj c st'=>HdI key a b st (o.size+min j 1) c st') (Q:=HdQ key a b st (o.size+1)) (λj c st2 _ hj J=>qW (n:=o.size+min j 1) (m':=o.size+min (j+1) 1) C hκ ua ub ha hb h0 J (by lia) λr st' k =>?_) (λc st' J =>?_) ⟨sm1,x,y,o,0,0,rfl,m,hx,hy,wq _⟩) ?_)
 ·cases r with
  | done c'=>exact k.imp id λz=>z.imp id λ⟨x,y,o',ac,bc,e,m,hx,hy,hz⟩=>⟨x,y,o',ac,bc,e,m,hx,hy,by lia⟩
  | yield c'=>exact k
 ·obtain ⟨sm,x,y,o',ac,bc,e,m,hx,hy,hz⟩:=J
  exact ⟨sm,.inr ⟨x,y,o',ac,bc,e,m,hx,hy,by lia⟩⟩
 rintro c st2 ⟨sm2,⟨r,x,y,o',ac,bc,rfl,fr⟩ | ⟨x,y,o',ac,bc,rfl,m,hx,hy,hz2⟩⟩
 ·exact wQ ⟨sm2,.inl ⟨_,_,_,_,_,rfl,fr⟩⟩
 dsimp only
 refine wK (B8 (zS ⟨rfl,?_⟩))
 refine wK (yI (xV (I:=λ_ c st'=>HiQ key a b st o'.size (.yield c) st') (Q:=λc st'=>HiQ key a b st o'.size (.done c) st') (λj c st3 _ hj J =>?_) (λc st' J=>⟨J.1,.inr J.2⟩) ⟨sm2,x,y,o',_,ac,bc,rfl,m,hx,hy,wq _⟩) ?_)
 ·obtain ⟨sm3,x,y,p,mg,ac,bc,rfl,m,hx,hy,hz3⟩:=J
  refine yI (sW C hκ ua ub ha hb h0 sm3 m hx hy hz3) ?_
  intro r st' h
  cases r <;> exact h
 rintro c st3 ⟨sm3,⟨r,x,y,p,mg,ac,bc,rfl,fr⟩ | ⟨x,y,p,mg,ac,bc,rfl,m,hx,hy,hz3⟩⟩
 ·exact wQ ⟨sm3,.inl ⟨_,_,_,_,_,rfl,fr⟩⟩
 ·dsimp only
  exact wK (yV (wQ ⟨sm3.mg _,x,y,p,_,rfl,m,hx,hy,by lia⟩))
theorem uW (C:Cmp prog w A s O key U κ){a b:Array wM}{st:w9}{Q:Array wM->w9->Prop}(hκ:kindOf st=κ)(ua:∀p∈a.toList,U p)(ub:∀p∈b.toList,U p)
  (ha:a.toList.Pairwise (Le key)) (hb:b.toList.Pairwise (Le key)) (na:0<a.size) (nb:0<b.size) (h0:∀p q,b[0]? = some p->q∈a.toList->Le key p q) (hl:∀p q,p∈b.toList->a[a.size-1]? = some q->Le key p q)
  (h:∀r st',Sm st st'->dw key a b r->Q r st'):wpS (xk prog w) A E s (mHi a b) Q st:=by
 rw[sZ]
 refine wK (B8 (zS ⟨rfl,?_⟩))
 obtain ⟨a0,ea0⟩:=a9 (AB na)
 have m0:MV key a b #[] a.size b.size:=by
  refine ⟨wq _,wq _,?_,List.Pairwise.nil,λp _ q hq=>by cases hq⟩
  rw[yd (by rw[wy];exact wq _),yd (by rw[wy];exact wq _)]
  show (a.toList++b.toList++[]).Perm _
  rw[xM]
 have m1:MV key a b #[a0] (a.size-1) b.size:=m0.ij na ea0 ha λt ht=>hl t a0 (yO ht) ea0
 refine wK (a6 ea0 ?_)
 by_cases c1:(a.size-1 == 0)=true
 ·rw[if_pos c1]
  exact wQ (h _ st (Sm.refl st) (m1.pK hb (beq_iff_eq.mp c1)))
 rw[if_neg c1]
 by_cases c2:(b.size == 1)=true
 ·rw[if_pos c2]
  exact wQ (h _ st (Sm.refl st) (m1.first ha hb (beq_iff_eq.mp c2) h0))
 rw[if_neg c2]
 refine wK (Bz ?_)
 refine wK (yI (xV (I:=λi c st'=>HeI key a b st i c st') (Q:=HeQ key a b st) (λi c st1 _ _ J=>yI (pO C hκ ua ub ha hb h0 na J) λr st' h=>by cases r <;> exact h) (λc st' J =>?_) ⟨Sm.refl st,_,_,_,_,rfl,m1,qU c1,sV nb c2,wq _⟩) ?_)
 ·obtain ⟨sm,x,y,o,mg,e,m,hx,hy,hz⟩:=J
  exact ⟨sm,.inr ⟨x,y,o,mg,e,m,hx,hy,by lia⟩⟩
 rintro c st' ⟨sm,⟨r,x,y,o,mg,rfl,fr⟩ | ⟨x,y,o,mg,rfl,m,hx,hy,hz⟩⟩
 ·exact wQ (h r st' sm fr)
 ·have:=m.size
  lia
end
open PySem PyProof.Rows
theorem uZ (i:Nat):mAt i=(do
    let s ← get
    let (some (sa,na,pw),some (sb,nb,_)):=((wW s)[i]?,(wW s)[i+1]?) | unsupported "internal:list.sort.pending"
    set (SortSt.mk' (kindOf s) (wU s) (((wW s).setIfInBounds i (sa,na+nb,pw)).eraseIdxIfInBounds (i+1)) (gallopOf s) (failedOf s))
    let some k ← gal false (← elem' (wU s) sb) (wU s) sa na 0 | return false
    let (sa,na):=(sa+k,na-k)
    if na == 0 then return true
    let some nb ← gal true (← elem' (wU s) (sa+na-1)) (wU s) sb nb (nb-1) | return false
    if nb == 0 then return true
    let x:=(wU s).extract sa sb
    let y:=(wU s).extract sb (sb+nb)
    let mm ← if na<=nb then mLo x y else mHi x y
    modify λs=>setArr s (mm.toList.zipIdx.foldl (λa (p,j)=>a.setIfInBounds (sa+j) p) (wU s))
    return (failedOf (← get)).isNone):=rfl
theorem gp {α:Type}(p r:List α)(k:Nat):(p++r).drop (p.length+k)=r.drop k:=by
 rw[<- Du,Bc]
theorem m8 {α:Type}(p r:List α)(k:Nat):(p++r)[p.length+k]? = r[k]? := by
 rw[yZ (by lia),zr]
theorem ug {α:Type}(p a r:List α){k:Nat}(h:k<a.length):(p++(a++r))[p.length+k]? = a[k]? := by
 rw[m8,y9 h]
theorem written (l:List wM):∀(c n:Nat) (a:Array wM),c+n+l.length<=a.size->((l.zipIdx n).foldl (λ(a:Array wM) (pj:wM×Nat)=>a.setIfInBounds (c+pj.2) pj.1) a).toList=a.toList.take (c+n)++l++a.toList.drop (c+n+l.length):=by
 induction l with
 | nil=>intro c n a _;simp
 | cons z l ih =>
  intro c n a h
  rw[xn] at h
  rw[List.zipIdx_cons,BN,ih c (n+1) _ (by rw[Bk];lia)]
  have e:(a.setIfInBounds (c+n) z).toList=a.toList.set (c+n) z:=AR ..
  rw[e]
  have lt:c+n<a.toList.length:=by rw[wy];lia
  have t1:(a.toList.set (c+n) z).take (c+(n+1))=a.toList.take (c+n)++[z]:=by
   rw[show c+(n+1)=c+n+1 by lia,yS,List.take_set_of_le (wq _),Ak lt]
   rfl
  have t2:(a.toList.set (c+n) z).drop (c+(n+1)+l.length)=a.toList.drop (c+n+(l.length+1)):=by
   rw[List.drop_set_of_lt (by lia),show c+(n+1)+l.length=c+n+(l.length+1) by lia]
  rw[t1,t2,xn]
  simp
section
variable  {prog:wL}{w:xg}{A:xF}{E:wm->wu->Prop}{s:wu}{O:A5}{key:wM->O.α}{U:wM->Prop}{κ:SortKind}
theorem u5 (C:Cmp prog w A s O key U κ){i pw pw2:Nat}{st:w9}{Q:Bool->w9->Prop}{P X Y S:List wM}(hκ:kindOf st=κ)(hf:failedOf st=none)
    (ha:(wU st).toList=P++(X++(Y++S))) (hu:∀p∈(wU st).toList,U p) (h1:(wW st)[i]? = some (P.length,X.length,pw)) (h2:(wW st)[i+1]? = some (P.length+X.length,Y.length,pw2))
    (nx:0<X.length) (ny:0<Y.length) (sx:X.Pairwise (Le key)) (sy:Y.Pairwise (Le key))
    (h:∀st' M,M.Perm (X++Y)->M.Pairwise (Le key)->(wU st').toList=P++(M++S)->wW st'=((wW st).setIfInBounds i (P.length,X.length+Y.length,pw)).eraseIdxIfInBounds (i+1)->kindOf st'=κ -> failedOf st'=none->Q true st') :
    wpS (xk prog w) A E s (mAt i) Q st:=by
  rw[uZ]
  refine wK (Bz ?_)
  rw[h1,h2]
  dsimp only
  refine wK (show wpS (xk prog w) A E s (modify λ_=>SortSt.mk' (kindOf st) (wU st) (((wW st).setIfInBounds i (P.length,X.length+Y.length,pw)).eraseIdxIfInBounds (i+1)) (gallopOf st) (failedOf st)) _ st from yV ?_)
  generalize hst1:SortSt.mk' (kindOf st) (wU st) (((wW st).setIfInBounds i (P.length,X.length+Y.length,pw)).eraseIdxIfInBounds (i+1)) (gallopOf st) (failedOf st)=st1
  have k1:kindOf st1=κ:=by rw[<- hst1];exact hκ
  have a1:wU st1=wU st:=by rw[<- hst1]
  have p1:wW st1=((wW st).setIfInBounds i (P.length,X.length+Y.length,pw)).eraseIdxIfInBounds (i+1):=by rw[<- hst1]
  have f1:failedOf st1=none:=by rw[<- hst1];exact hf
  have sz:(wU st).size=P.length+X.length+Y.length+S.length:=by
    rw[<- wy,ha];simp only[wj];lia
  have atX:∀j,j<X.length->(wU st)[P.length+j]? = X[j]? := λj hj=>by
    rw[<- wI,ha,ug _ _ _ hj]
  have atY:∀j,j<Y.length->(wU st)[P.length+X.length+j]? = Y[j]? := λj hj=>by
    rw[<- wI,ha, <- xc,show P.length+X.length+j=(P++X).length+j by rw[wj],ug _ _ _ hj]
  have uX:∀p∈X,U p:=λp hp=>hu p (by rw[ha];simp[hp])
  have uY:∀p∈Y,U p:=λp hp=>hu p (by rw[ha];simp[hp])
  have xget:∀j,j<X.length->∃z,X[j]? = some z:=λj hj=>⟨X[j],by simp[hj]⟩
  have yget:∀j,j<Y.length->∃z,Y[j]? = some z:=λj hj=>⟨Y[j],by simp[hj]⟩
  obtain ⟨y0,ey0⟩:=yget 0 ny
  have plain:(∀p∈X,∀q∈Y,Le key p q)->Q true st1:=λhle=>h st1 (X++Y) (A9 _) (yc.mpr ⟨sx,sy,hle⟩) (by rw[a1,ha,xc]) p1 k1 f1
  refine wK (a6 (z:=y0) (by rw[show P.length+X.length=P.length+X.length+0 by lia,atY 0 ny];exact ey0) ?_)
  refine wK (uQ C (λj=>(X[j]?).getD y0) k1 (uY _ (wR ey0)) (λj hj =>?_) (λj hj =>?_) (λi j hij hj =>?_) nx λk hk g1 g2 =>?_)
  · obtain ⟨z,e⟩:=xget j hj
    rw[atX j hj,e];rfl
  · obtain ⟨z,e⟩:=xget j hj
    rw[e];exact uX _ (wR e)
  · obtain ⟨z,e⟩:=xget i (by lia)
    obtain ⟨z',e'⟩:=xget j hj
    rw[e,e'];exact aM sx e e' hij
  dsimp only at g1 g2 ⊢
  have y0le:∀q∈Y,Le key y0 q:=λq hq=>by
    obtain ⟨n,e⟩:=xI.mp hq
    exact aM sy ey0 e (xH _)
  by_cases c1:(X.length-k == 0)=true
  · rw[if_pos c1]
    refine wQ (plain λp hp q hq =>?_)
    obtain ⟨n,e⟩:=xI.mp hp
    have hn:n<X.length:=(wF.mp e).1
    have z:=g1 n (by have:=beq_iff_eq.mp c1;lia)
    rw[e] at z
    exact xo z (y0le q hq)
  rw[if_neg c1]
  have kx:k<X.length:=by have:X.length-k≠0:=λz=>c1 (beq_iff_eq.mpr z);lia
  obtain ⟨xl,exl⟩:=xget (X.length-1) (by lia)
  have xlle:∀p∈X,Le key p xl:=λp hp=>by
    obtain ⟨n,e⟩:=xI.mp hp
    have hn:n<X.length:=(wF.mp e).1
    exact aM sx e exl (by lia)
  refine wK (a6 (z:=xl) (by rw[show P.length+k+(X.length-k)-1=P.length+(X.length-1) by lia,atX _ (by lia)];exact exl) ?_)
  refine wK (uS C (λj=>(Y[j]?).getD xl) k1 (uX _ (wR exl)) (λj hj =>?_) (λj hj =>?_) (λi j hij hj =>?_) (by lia) λm hm e1 e2 =>?_)
  · obtain ⟨z,e⟩:=yget j hj
    rw[atY j hj,e];rfl
  · obtain ⟨z,e⟩:=yget j hj
    rw[e];exact uY _ (wR e)
  · obtain ⟨z,e⟩:=yget i (by lia)
    obtain ⟨z',e'⟩:=yget j hj
    rw[e,e'];exact aM sy e e' hij
  dsimp only at e1 e2 ⊢
  by_cases c2:(m == 0)=true
  · rw[if_pos c2]
    refine wQ (plain λp hp q hq =>?_)
    obtain ⟨n,e⟩:=xI.mp hq
    have hn:n<Y.length:=(wF.mp e).1
    have z:=e2 n (by have:=beq_iff_eq.mp c2;lia) hn
    rw[e] at z
    exact xo (xlle p hp) z
  rw[if_neg c2]
  have m0:0<m:=by have:m≠0:=λz=>c2 (beq_iff_eq.mpr z);lia
  have ex:((wU st).extract (P.length+k) (P.length+X.length)).toList=X.drop k:=by
    rw[yM,yo,ha,gp,zy (by lia)]
    rw[List.take_left' (by rw[yp];lia)]
  have ey:((wU st).extract (P.length+X.length) (P.length+X.length+m)).toList=Y.take m:=by
    have e:=gp (P++X) (Y++S) 0
    rw[wj,Nat.add_zero,Ba,xc] at e
    rw[yM,yo,ha,e,zr,Aw hm]
  have sX:((wU st).extract (P.length+k) (P.length+X.length)).size=X.length-k:=by rw[<- wy,ex,yp]
  have sY:((wU st).extract (P.length+X.length) (P.length+X.length+m)).size=m:=by rw[<- wy,ey,xX];lia
  generalize (wU st).extract (P.length+k) (P.length+X.length)=xa at ex sX ⊢
  generalize (wU st).extract (P.length+X.length) (P.length+X.length+m)=ya at ey sY ⊢
  have xa0:∀q∈xa.toList,Le key y0 q:=λq hq=>by
    rw[ex] at hq
    obtain ⟨n,hn,e⟩:=aZ hq
    have hn2:n<X.length:=(wF.mp e).1
    have z:=g2 n hn hn2
    rw[e] at z
    exact x8 z
  have yaL:∀p∈ya.toList,Le key p xl:=λp hp=>by
    rw[ey] at hp
    obtain ⟨n,hn,e⟩:=ba hp
    have z:=e1 n hn
    rw[e] at z
    exact x8 z
  have first:∀p q,ya[0]? = some p->q∈xa.toList->Le key p q:=λp q hp hq=>by
    rw[<- wI,ey,yz,if_pos m0,ey0] at hp
    cases hp
    exact xa0 q hq
  have lst:∀p q,p∈ya.toList->xa[xa.size-1]? = some q->Le key p q:=λp q hp hq=>by
    rw[<- wI,ex,zD,sX,show k+(X.length-k-1)=X.length-1 by lia,exl] at hq
    cases hq
    exact yaL p hp
  have sxa:xa.toList.Pairwise (Le key):=by rw[ex];exact sx.sublist (xS _ _)
  have sya:ya.toList.Pairwise (Le key):=by rw[ey];exact sy.sublist (xR _ _)
  have uxa:∀p∈xa.toList,U p:=λp hp=>by rw[ex] at hp;exact uX p (yN hp)
  have uya:∀p∈ya.toList,U p:=λp hp=>by rw[ey] at hp;exact uY p (yO hp)
  have post:∀r st',Sm st1 st'->dw key xa ya r->wpS (xk prog w) A E s (do modify λs=>setArr s (r.toList.zipIdx.foldl (λa (p,j)=>a.setIfInBounds (P.length+k+j) p) (wU s));return (failedOf (← get)).isNone) Q st':=by
    rintro r st' sm ⟨fp,fs⟩
    refine wK (yV (wK (Bz (wQ ?_))))
    have rl:r.toList.length=X.length-k+m:=by rw[fp.length_eq,wj,wy,wy,sX,sY]
    have wr:=written r.toList (P.length+k) 0 (wU st') (by rw[sm.a,a1,sz,rl];lia)
    have e:(failedOf (setArr st' (r.toList.zipIdx.foldl (λa (p,j)=>a.setIfInBounds (P.length+k+j) p) (wU st')))).isNone=true:=by
      show (failedOf st').isNone=true
      rw[sm.f,f1];rfl
    rw[e]
    have t1:(P++(X++(Y++S))).take (P.length+k+0)=P++X.take k:=by
      rw[Nat.add_zero,List.take_append,yd (by lia),zr,Aw (by lia)]
    have t2:(P++(X++(Y++S))).drop (P.length+k+0+r.toList.length)=Y.drop m++S:=by
      rw[rl,show P.length+k+0+(X.length-k+m)=P.length+(X.length+m) by lia,gp,gp,zy hm]
    have perm:(X.take k++(r.toList++Y.drop m)).Perm (X++Y):=by
      rw[ex,ey] at fp
      have q:(X.take k++(r.toList++Y.drop m)).Perm (X.take k++((X.drop k++Y.take m)++Y.drop m)):=yJ _ (yY _ fp)
      have e3:X.take k++((X.drop k++Y.take m)++Y.drop m)=X++Y:=by
        rw[xc (X.drop k),yK, <- xc,yK]
      rw[e3] at q
      exact q
    have inr:∀z∈r.toList,z∈X.drop k\/z∈Y.take m:=λz hz=>by
      have q:=fp.mem_iff.mp hz
      rw[ex,ey] at q
      exact wC.mp q
    refine h _ (X.take k++(r.toList++Y.drop m)) perm ?_ ?_ ?_ (sm.k.trans k1) (sm.f.trans f1)
    · refine yc.mpr ⟨sx.sublist (xR _ _),yc.mpr ⟨fs,sy.sublist (xS _ _),λp hp q hq =>?_⟩,λp hp q hq =>?_⟩
      · obtain ⟨n,hn,en⟩:=aZ hq
        have hn2:n<Y.length:=(wF.mp en).1
        rcases inr p hp with z | z
        · have g:=e2 n hn hn2
          rw[en] at g
          exact xo (xlle p (yN z)) g
        · obtain ⟨j,hj,ej⟩:=ba z
          exact aM sy ej en (by lia)
      · obtain ⟨n,hn,en⟩:=ba hp
        have g:=g1 n hn
        rw[en] at g
        rcases wC.mp hq with z | z
        · rcases inr q z with z | z
          · obtain ⟨j,hj,ej⟩:=aZ z
            exact aM sx en ej (by lia)
          · exact xo g (y0le q (yO z))
        · exact xo g (y0le q (yN z))
    · show (r.toList.zipIdx.foldl (λa (p,j)=>a.setIfInBounds (P.length+k+j) p) (wU st')).toList=_
      rw[wr,sm.a,a1,ha,t1,t2]
      simp only[xc]
    · show wW st'=_
      rw[sm.p,p1]
  by_cases c3:X.length-k<=m
  · rw[if_pos c3]
    exact wK (uU C k1 uxa uya sxa sya (by lia) (by lia) (λp q hp hq=>first p q hp (bJ hq)) lst λr st' sm fr=>post r st' sm fr)
  · rw[if_neg c3]
    exact wK (uW C k1 uxa uya sxa sya (by lia) (by lia) first lst λr st' sm fr=>post r st' sm fr)
end
open PySem PyProof.Rows
theorem td (lo m:Nat):uO lo m=(do
    let mut n:=1
    for _ in [1:m] do
      let some sm ← ltAt' (lo+n) (lo+n-1)
        | return none
      if sm then break
      n:=n+1
    if n == m then return some n
    if n>1 then
      let some ro ← ltAt' lo (lo+n-1)
        | return none
      if ro then return some n
      reverseSlice' lo (lo+n)
    rule "list.sort.descending-run"
    n:=n+1
    let mut q:=0
    for _ in [n:m] do
      let some sm ← ltAt' (lo+n) (lo+n-1)
        | return none
      if sm then
        if q>0 then reverseSlice' (lo+n-(q+1)) (lo+n)
        q:=0
      else
        let some lg ← ltAt' (lo+n-1) (lo+n)
          | return none
        if lg then break
        q:=q+1
      n:=n+1
    if q>0 then reverseSlice' (lo+n-(q+1)) (lo+n)
    reverseSlice' lo (lo+n)
    for _ in [n:m] do
      let some sm ← ltAt' (lo+n) (lo+n-1)
        | return none
      if sm then break
      n:=n+1
    return some n):=rfl
theorem qX (lo n ok:Nat):qO lo n ok=(do
    for k in [max ok 1:n] do
      let mut l:=0;let mut r:=k
      for _ in [0:k] do
        if l≥r then break
        let m:=(l+r)/2
        let some le ← ltAt' (lo+k) (lo+m)
          | return false
        if le then r:=m else l:=m+1
      moveDown' (lo+k) (lo+l)
    return true):=rfl
section
variable  {O:A5}(key:wM->O.α)
def kk (xs:Array wM)(i:Nat):O.α:=key ((xs[i]?).getD (yW,yW))
def Up (xs:Array wM)(lo n:Nat):Prop:=∀i j,lo<=i->i<=j->j<lo+n->O.kle (kk key xs i) (kk key xs j)
def Down (xs:Array wM)(lo n:Nat):Prop:=∀i j,lo<=i->i<=j->j<lo+n->O.kle (kk key xs j) (kk key xs i)
variable  {key}
theorem gq {xs ys:Array wM}{i j:Nat}(h:xs[i]? = ys[j]?):kk key xs i=kk key ys j:=by unfold kk;rw[h]
theorem j1 {xs:Array wM}{i j:Nat}(hj:j<=xs.size)(k:Nat):kk key (mirror xs i j ((j-i)/2)) k=if i<=k/\k<j then kk key xs (i+j-1-k) else kk key xs k:=by
 have e:=Co (i:=i) hj k
 by_cases h:i<=k/\k<j
 ·rw[if_pos h] at e ⊢;exact gq e
 ·rw[if_neg h] at e ⊢;exact gq e
theorem dR {xs:Array wM}{i j:Nat}(hj:j<=xs.size)(he:∀k,i<=k->k<j->kk key xs k=kk key xs (j-1))(k:Nat):kk key (mirror xs i j ((j-i)/2)) k=kk key xs k:=by
 rw[j1 hj]
 split
 ·rw[he _ (by omega) (by omega),he k (by omega) (by omega)]
 ·rfl
end
structure SA (lo:Nat)(st st':w9):Prop where
 perm:(wU st').Perm (wU st)
 pre:∀k,k<lo->(wU st')[k]? = (wU st)[k]?
 k:kindOf st'=kindOf st
 p:wW st'=wW st
 f:failedOf st'=failedOf st
theorem SA.refl (lo:Nat)(st:w9):SA lo st st:=⟨Array.Perm.refl _,λ_ _=>rfl,rfl,rfl,rfl⟩
theorem SA.size {lo:Nat}{st st':w9}(h:SA lo st st'):(wU st').size=(wU st).size:=h.perm.size_eq
theorem SA.mirror {lo:Nat}{st st':w9}(h:SA lo st st'){i j:Nat}(hi:lo<=i)(hj:j<=(wU st').size):SA lo st (setArr st' (mirror (wU st') i j ((j-i)/2))) :=
 ⟨(mirror_perm _ _ _ _).trans h.perm,λk hk=>by
  show (PyProof.Rows.mirror (wU st') i j ((j-i)/2))[k]? = _
  rw[Co hj,if_neg (by lia)]
  exact h.pre k hk,h.k,h.p,h.f⟩
theorem SA.mem {lo:Nat}{st st':w9}(h:SA lo st st'){p:wM}(hp:p∈(wU st').toList):p∈(wU st).toList:=(AS.mp h.perm).mem_iff.mp hp
section
variable  {prog:wL}{w:xg}{A:xF}{E:wm->wu->Prop}{s:wu}{O:A5}{key:wM->O.α}{U:wM->Prop}{κ:SortKind}
theorem fD (C:Cmp prog w A s O key U κ){st:w9}{i j:Nat}{Q:Option Bool->w9->Prop}(hκ:kindOf st=κ)(hu:∀p∈(wU st).toList,U p)(hi:i<(wU st).size)(hj:j<(wU st).size)
  (h:Q (some (O.blt (kk key (wU st) i) (kk key (wU st) j))) st):wpS (xk prog w) A E s (ltAt' i j) Q st:=by
 rw[ltAt'_eq]
 refine wK (Bz ?_)
 obtain ⟨x,ex⟩:=a9 hi
 obtain ⟨y,ey⟩:=a9 hj
 dsimp only
 refine wK (a6 ex (wK (a6 ey (C.lt _ st x y _ hκ (hu _ (bJ ex)) (hu _ (bJ ey)) ?_))))
 unfold kk at h
 rw[ex,ey] at h
 exact h
theorem tj (C:Cmp prog w A s O key U κ){st:w9}{lo m:Nat}{Q:Option Nat->w9->Prop}(hκ:kindOf st=κ)(hu:∀p∈(wU st).toList,U p)(hm:1<=m)(hz:lo+m=(wU st).size)
  (h:∀n st',1<=n->n<=m->SA lo st st'->Up key (wU st') lo n->Q (some n) st'):wpS (xk prog w) A E s (uO lo m) Q st:=by
 rw[td]
 dsimp only
 refine wK (yI (xV (I:=λx c st'=>st=st'/\c=(none,x)/\Up key (wU st) lo x)
  (Q:=λc st'=>st=st'/\∃n,c=(none,n)/\1<=n/\n<=m/\Up key (wU st) lo n/\(n<m->O.klt (kk key (wU st) (lo+n)) (kk key (wU st) (lo+n-1)))) ?step ?fin ⟨rfl,rfl,λi j h1 h2 h3=>by rw[show i=j by lia];exact yy _⟩) ?post)
 case fin =>
  rintro c st' ⟨rfl,rfl,up⟩
  exact ⟨rfl,_,rfl,by lia,by lia,by rw[show max 1 m=m by lia] at up ⊢;exact up,by lia⟩
 case step =>
  rintro x c st' h1 h2 ⟨rfl,rfl,up⟩
  dsimp only
  refine wK (fD C hκ hu (by lia) (by lia) ?_)
  dsimp only
  cases hb:O.blt (kk key (wU st) (lo+x)) (kk key (wU st) (lo+x-1)) with
  | true =>
   rw[if_pos rfl]
   exact wQ ⟨rfl,x,rfl,h1,by lia,up,λ_=>hb⟩
  | false =>
   rw[if_neg (by simp)]
   refine wQ ⟨rfl,rfl,λi j k1 k2 k3 =>?_⟩
   by_cases hj:j=lo+x
   ·by_cases hi:i=j
    ·rw[hi];exact yy _
    ·rw[hj]
     exact xo (up i (lo+x-1) k1 (by lia) (by lia)) hb
   ·exact up i j k1 k2 (by lia)
 case post =>
  rintro c st' ⟨rfl,n,rfl,n1,n2,up,br⟩
  dsimp only
  by_cases c1:(n == m)=true
  ·rw[if_pos c1]
   exact wQ (h n st n1 n2 (SA.refl _ _) up)
  rw[if_neg c1]
  have nm:n<m:=by have:n≠m:=λz=>c1 (beq_iff_eq.mpr z);lia
  have br:=br nm
  by_cases c2:n>1
  case' pos =>
   rw[if_pos c2]
   refine wK (fD C hκ hu (by lia) (by lia) ?_)
   dsimp only
   cases hro:O.blt (kk key (wU st) lo) (kk key (wU st) (lo+n-1))
   case' true =>
    rw[if_pos rfl]
    exact wQ (h n st n1 n2 (SA.refl _ _) up)
   rw[if_neg (by simp)]
   have eqs:∀k,lo<=k->k<lo+n->kk key (wU st) k=kk key (wU st) (lo+n-1):=λk k1 k2 =>
    Ci (up k (lo+n-1) k1 (by lia) (by lia)) (xo (show O.kle (kk key (wU st) (lo+n-1)) (kk key (wU st) lo) from hro) (up lo k (wq _) k1 k2))
   rw[Az]
   refine wK (yV ?_)
   have sa:=(SA.refl lo st).mirror (i:=lo) (j:=lo+n) (wq _) (by lia)
   have ke:=dR (key:=key) (xs:=wU st) (i:=lo) (j:=lo+n) (by lia) eqs
   have ka:∀k,kk key (wU (setArr st (mirror (wU st) lo (lo+n) ((lo+n-lo)/2)))) k=kk key (wU st) k:=ke
   generalize setArr st (mirror (wU st) lo (lo+n) ((lo+n-lo)/2))=st1 at sa ka ⊢
   clear ke
  case' neg =>
   rw[if_neg c2]
   have eqs:∀k,lo<=k->k<lo+n->kk key (wU st) k=kk key (wU st) (lo+n-1):=λk k1 k2=>by rw[show k=lo+n-1 by lia]
   obtain ⟨st1,e1⟩:∃st1,st1=st:=⟨_,rfl⟩
   have sa:SA lo st st1:=by rw[e1];exact SA.refl _ _
   have ka:∀k,kk key (wU st1) k=kk key (wU st) k:=λk=>by rw[e1]
   rw[<- e1]
   clear e1
  all_goals
   refine wK (B8 (zS ⟨rfl,?_⟩))
   have dn:Down key (wU st1) lo (n+1):=λi j k1 k2 k3=>by
    rw[ka,ka]
    by_cases hj:j=lo+n
    ·by_cases hi:i=j
     ·rw[hi];exact yy _
     ·rw[hj,eqs i k1 (by lia)]
      exact x8 br
    ·rw[eqs i k1 (by lia),eqs j (by lia) (by lia)]
     exact yy _
   clear eqs up br ka
   refine wK (yI (xV (I:=λx c st'=>∃q,c=(none,x,q)/\x<=m/\SA lo st st'/\Down key (wU st') lo x/\q+1<=x/\∀k,lo+x-(q+1)<=k->k<lo+x->kk key (wU st') k=kk key (wU st') (lo+x-1))
    (Q:=λc st'=>∃x q,c=(none,x,q)/\1<=x/\x<=m/\SA lo st st'/\Down key (wU st') lo x/\q+1<=x/\∀k,lo+x-(q+1)<=k->k<lo+x->kk key (wU st') k=kk key (wU st') (lo+x-1)) ?step ?fin
    ⟨0,rfl,by lia,sa,dn,by lia,λk k1 k2=>by rw[show k=lo+(n+1)-1 by lia]⟩) ?post)
   case fin =>
    rintro c st' ⟨q,rfl,xm,sa,dn,hq,he⟩
    exact ⟨_,q,rfl,by lia,xm,sa,dn,hq,he⟩
   case step =>
    rintro x c st2 h1 h2 ⟨q,rfl,xm,sa2,dn2,hq,he⟩
    dsimp only
    have sz:=sa2.size
    have u2:∀p∈(wU st2).toList,U p:=λp hp=>hu p (sa2.mem hp)
    refine wK (fD C (sa2.k.trans hκ) u2 (by lia) (by lia) ?_)
    dsimp only
    cases hb:O.blt (kk key (wU st2) (lo+x)) (kk key (wU st2) (lo+x-1)) with
    | true =>
     rw[if_pos rfl]
     have dn3:Down key (wU st2) lo (x+1):=λi j k1 k2 k3=>by
      by_cases hj:j=lo+x
      ·by_cases hi:i=j
       ·rw[hi];exact yy _
       ·rw[hj];exact xo (x8 hb) (dn2 i (lo+x-1) k1 (by lia) (by lia))
      ·exact dn2 i j k1 k2 (by lia)
     by_cases q0:q>0
     ·rw[if_pos q0,Az]
      refine wK (yV (wQ ?_))
      have ke:=dR (key:=key) (xs:=wU st2) (i:=lo+x-(q+1)) (j:=lo+x) (by lia) he
      refine ⟨0,rfl,by lia,sa2.mirror (by lia) (by lia),λi j k1 k2 k3 =>?_,by lia,λk k1 k2=>by rw[show k=lo+(x+1)-1 by lia]⟩
      show O.kle (kk key (mirror (wU st2) (lo+x-(q+1)) (lo+x) ((lo+x-(lo+x-(q+1)))/2)) j) (kk key (mirror (wU st2) (lo+x-(q+1)) (lo+x) ((lo+x-(lo+x-(q+1)))/2)) i)
      rw[ke,ke]
      exact dn3 i j k1 k2 k3
     ·rw[if_neg q0]
      exact wQ ⟨0,rfl,by lia,sa2,dn3,by lia,λk k1 k2=>by rw[show k=lo+(x+1)-1 by lia]⟩
    | false =>
     rw[if_neg (by simp)]
     refine wK (fD C (sa2.k.trans hκ) u2 (by lia) (by lia) ?_)
     dsimp only
     cases hb2:O.blt (kk key (wU st2) (lo+x-1)) (kk key (wU st2) (lo+x)) with
     | true =>
      rw[if_pos rfl]
      exact wQ ⟨x,q,rfl,by lia,xm,sa2,dn2,hq,he⟩
     | false =>
      rw[if_neg (by simp)]
      have eq:=Ci (show O.kle (kk key (wU st2) (lo+x)) (kk key (wU st2) (lo+x-1)) from hb2) hb
      refine wQ ⟨q+1,rfl,by lia,sa2,λi j k1 k2 k3 =>?_,by lia,λk k1 k2 =>?_⟩
      ·by_cases hj:j=lo+x
       ·by_cases hi:i=j
        ·rw[hi];exact yy _
        ·rw[hj,eq];exact dn2 i (lo+x-1) k1 (by lia) (by lia)
       ·exact dn2 i j k1 k2 (by lia)
      ·rw[show lo+(x+1)-1=lo+x by lia,eq]
       by_cases hk:k=lo+x
       ·rw[hk,eq]
       ·exact he k (by lia) (by lia)
   case post =>
    rintro c st2 ⟨x,q,rfl,x1,xm,sa2,dn2,hq,he⟩
    dsimp only
    have sz:=sa2.size
    by_cases q0:q>0
    case' pos =>
     rw[if_pos q0,Az]
     refine wK (yV ?_)
     have ke:=dR (key:=key) (xs:=wU st2) (i:=lo+x-(q+1)) (j:=lo+x) (by lia) he
     have sa3:=sa2.mirror (i:=lo+x-(q+1)) (j:=lo+x) (by lia) (by lia)
     have dn3:Down key (wU (setArr st2 (mirror (wU st2) (lo+x-(q+1)) (lo+x) ((lo+x-(lo+x-(q+1)))/2)))) lo x:=λi j k1 k2 k3=>by
      show O.kle (kk key (mirror (wU st2) (lo+x-(q+1)) (lo+x) ((lo+x-(lo+x-(q+1)))/2)) j) (kk key (mirror (wU st2) (lo+x-(q+1)) (lo+x) ((lo+x-(lo+x-(q+1)))/2)) i)
      rw[ke,ke]
      exact dn2 i j k1 k2 k3
     generalize setArr st2 (mirror (wU st2) (lo+x-(q+1)) (lo+x) ((lo+x-(lo+x-(q+1)))/2))=st3 at sa3 dn3 ⊢
     clear ke
    case' neg =>
     rw[if_neg q0]
     obtain ⟨st3,e3⟩:∃st3,st3=st2:=⟨_,rfl⟩
     have sa3:SA lo st st3:=by rw[e3];exact sa2
     have dn3:Down key (wU st3) lo x:=by rw[e3];exact dn2
     rw[<- e3]
     clear e3
    all_goals
     rw[Az]
     refine wK (yV ?_)
     have sz3:=sa3.size
     have sa4:=sa3.mirror (i:=lo) (j:=lo+x) (wq _) (by lia)
     have km:=j1 (key:=key) (xs:=wU st3) (i:=lo) (j:=lo+x) (by lia)
     have up4:Up key (wU (setArr st3 (mirror (wU st3) lo (lo+x) ((lo+x-lo)/2)))) lo x:=λi j k1 k2 k3=>by
      show O.kle (kk key (mirror (wU st3) lo (lo+x) ((lo+x-lo)/2)) i) (kk key (mirror (wU st3) lo (lo+x) ((lo+x-lo)/2)) j)
      rw[km,km,if_pos ⟨by lia,by lia⟩,if_pos ⟨by lia,by lia⟩]
      exact dn3 _ _ (by lia) (by lia) (by lia)
     generalize setArr st3 (mirror (wU st3) lo (lo+x) ((lo+x-lo)/2))=st4 at sa4 up4 ⊢
     clear km
     have u4:∀p∈(wU st4).toList,U p:=λp hp=>hu p (sa4.mem hp)
     have sz4:=sa4.size
     refine wK (yI (xV (I:=λz c st'=>st4=st'/\c=(none,z)/\z<=m/\Up key (wU st4) lo z)
      (Q:=λc st'=>st4=st'/\∃z,c=(none,z)/\1<=z/\z<=m/\Up key (wU st4) lo z) ?step ?fin ⟨rfl,rfl,xm,up4⟩) ?post)
     case fin =>
      rintro c st' ⟨rfl,rfl,zm,up⟩
      exact ⟨rfl,_,rfl,by lia,zm,up⟩
     case post =>
      rintro c st' ⟨rfl,z,rfl,z1,zm,up⟩
      exact wQ (h z st4 z1 zm sa4 up)
     case step =>
      rintro z c st' h1 h2 ⟨rfl,rfl,zm,up⟩
      dsimp only
      refine wK (fD C (sa4.k.trans hκ) u4 (by lia) (by lia) ?_)
      dsimp only
      cases hb:O.blt (kk key (wU st4) (lo+z)) (kk key (wU st4) (lo+z-1)) with
      | true =>
       rw[if_pos rfl]
       exact wQ ⟨rfl,z,rfl,by lia,zm,up⟩
      | false =>
       rw[if_neg (by simp)]
       refine wQ ⟨rfl,rfl,by lia,λi j k1 k2 k3 =>?_⟩
       by_cases hj:j=lo+z
       ·by_cases hi:i=j
        ·rw[hi];exact yy _
        ·rw[hj];exact xo (up i (lo+z-1) k1 (by lia) (by lia)) hb
       ·exact up i j k1 k2 (by lia)
theorem j2 {xs:Array wM}{src d:Nat}(hs:src<xs.size)(hd:d<=src)(k:Nat) :
  kk key (bubble xs src d) k=if k=src-d then kk key xs src else if src-d<k/\k<=src then kk key xs (k-1) else kk key xs k:=by
 have e:=getElem?_bubble hs d hd k
 by_cases h1:k=src-d
 ·rw[if_pos h1] at e ⊢;exact gq e
 ·rw[if_neg h1] at e ⊢
  by_cases h2:src-d<k/\k<=src
  ·rw[if_pos h2] at e ⊢;exact gq e
  ·rw[if_neg h2] at e ⊢;exact gq e
theorem SA.bubble {lo:Nat}{st st':w9}(h:SA lo st st'){src d:Nat}(hs:src<(wU st').size)(hd:lo+d<=src):SA lo st (setArr st' (bubble (wU st') src d)) :=
 ⟨(bubble_perm _ _ _).trans h.perm,λk hk=>by
  show (PyProof.Rows.bubble (wU st') src d)[k]? = _
  rw[getElem?_bubble hs d (by lia),if_neg (by lia),if_neg (by lia)]
  exact h.pre k hk,h.k,h.p,h.f⟩
theorem qY (C:Cmp prog w A s O key U κ){st:w9}{lo n ok:Nat}{Q:Bool->w9->Prop}(hκ:kindOf st=κ)(hu:∀p∈(wU st).toList,U p)(hn:lo+n<=(wU st).size)(hok:ok<=n)(up:Up key (wU st) lo ok)
  (h:∀st',SA lo st st'->Up key (wU st') lo n->Q true st'):wpS (xk prog w) A E s (qO lo n ok) Q st:=by
 rw[qX]
 dsimp only
 refine wK (yI (xV (I:=λx c st'=>c=(none,())/\SA lo st st'/\Up key (wU st') lo (min x n)) (Q:=λc st'=>c=(none,())/\SA lo st st'/\Up key (wU st') lo n) ?step ?fin ⟨rfl,SA.refl _ _,λi j k1 k2 k3 =>?_⟩) ?post)
 case post =>
  rintro c st' ⟨rfl,sa,up⟩
  exact wQ (h st' sa up)
 case fin =>
  rintro c st' ⟨rfl,sa,up⟩
  refine ⟨rfl,sa,?_⟩
  rw[show min (max (max ok 1) n) n=n by lia] at up
  exact up
 case step =>
  rintro k c st1 h1 h2 ⟨rfl,sa1,up1⟩
  rw[show min k n=k by lia] at up1
  have sz:=sa1.size
  have u1:∀p∈(wU st1).toList,U p:=λp hp=>hu p (sa1.mem hp)
  refine wK (yI (xV (I:=λx c st'=>st1=st'/\∃l r,c=(none,l,r)/\l<=r/\r<=k/\r-l<=k-x/\(∀i,i<l->O.kle (kk key (wU st1) (lo+i)) (kk key (wU st1) (lo+k)))/\(∀i,r<=i->i<k->O.klt (kk key (wU st1) (lo+k)) (kk key (wU st1) (lo+i))))
   (Q:=λc st'=>st1=st'/\∃l r,c=(none,l,r)/\l<=k/\(∀i,i<l->O.kle (kk key (wU st1) (lo+i)) (kk key (wU st1) (lo+k)))/\(∀i,l<=i->i<k->O.klt (kk key (wU st1) (lo+k)) (kk key (wU st1) (lo+i)))) ?istep ?ifin ⟨rfl,0,k,rfl,by lia,by lia,by lia,λi hi=>by lia,λi a1 a2=>by lia⟩) ?ipost)
  case ifin =>
   rintro c st' ⟨rfl,l,r,rfl,b1,b2,b3,b4,b5⟩
   have e:l=r:=by lia
   subst e
   exact ⟨rfl,l,l,rfl,b2,b4,b5⟩
  case istep =>
   rintro x c st' _ hx ⟨rfl,l,r,rfl,b1,b2,b3,b4,b5⟩
   dsimp only
   by_cases hge:l≥r
   ·rw[if_pos hge]
    have e:l=r:=by lia
    subst e
    exact wQ ⟨rfl,l,l,rfl,b2,b4,b5⟩
   ·rw[if_neg hge]
    refine wK (fD C (sa1.k.trans hκ) u1 (by lia) (by lia) ?_)
    dsimp only
    cases hb:O.blt (kk key (wU st1) (lo+k)) (kk key (wU st1) (lo+(l+r)/2)) with
    | true =>
     rw[if_pos rfl]
     exact wQ ⟨rfl,l,(l+r)/2,rfl,by lia,by lia,by lia,b4,λi a1 a2=>KeyOrd.klt_of_klt_of_kle hb (up1 _ _ (by lia) (by lia) (by lia))⟩
    | false =>
     rw[if_neg (by simp)]
     exact wQ ⟨rfl,(l+r)/2+1,r,rfl,by lia,by lia,by lia,λi a1=>xo (up1 (lo+i) (lo+(l+r)/2) (by lia) (by lia) (by lia)) hb,b5⟩
  case ipost =>
   rintro c st' ⟨rfl,l,r,rfl,b2,b4,b5⟩
   dsimp only
   rw[moveDown'_eq]
   have e:lo+k-(lo+l)=k-l:=by lia
   refine wK (yV (wQ ⟨rfl,?_,?_⟩))
   ·rw[e]
    exact sa1.bubble (by lia) (by lia)
   ·rw[show min (k+1) n=k+1 by lia]
    intro i j k1 k2 k3
    show O.kle (kk key (bubble (wU st1) (lo+k) (lo+k-(lo+l))) i) (kk key (bubble (wU st1) (lo+k) (lo+k-(lo+l))) j)
    have lt:lo+k<(wU st1).size:=by lia
    rw[e,j2 lt (by lia),j2 lt (by lia),show lo+k-(k-l)=lo+l by lia]
    have b4':∀z,lo<=z->z<lo+l->O.kle (kk key (wU st1) z) (kk key (wU st1) (lo+k)):=λz z1 z2=>by
     have:=b4 (z-lo) (by lia)
     rw[show lo+(z-lo)=z by lia] at this
     exact this
    have b5':∀z,lo+l<=z->z<lo+k->O.kle (kk key (wU st1) (lo+k)) (kk key (wU st1) z):=λz z1 z2=>by
     have:=b5 (z-lo) (by lia) (by lia)
     rw[show lo+(z-lo)=z by lia] at this
     exact x8 this
    repeat' split
    all_goals first
     | (exfalso;lia)
     | exact yy _
     | exact b4' _ (by lia) (by lia)
     | exact b5' _ (by lia) (by lia)
     | exact up1 _ _ (by lia) (by lia) (by lia)
 ·by_cases h1:ok=0
  ·rw[show i=j by lia];exact yy _
  ·exact up i j k1 k2 (by lia)
end
open PySem PyProof.Rows
def pwr:Nat->Nat->Nat->Nat->Nat:=sortPriv% PySem.Builtin.power
def mrn:Nat->Nat->Nat->Nat:=sortPriv% PySem.Builtin.minRun
theorem qZ:uf=(do
    let sz:=(wU (← get)).size
    let mr:=mrn sz sz 0
    let mut lo:=0
    for _ in [0:sz] do
      if lo≥sz then break
      let some fd ← uO lo (sz-lo)
        | return
      let mut n:=fd
      if n<mr then
        rule "list.sort.binary-insertion"
        let fo:=min (sz-lo) mr
        if !(← qO lo fo n) then return
        n:=fo
      if let some (s1,n1,_):=(wW (← get)).back? then
        let pw:=pwr sz (2*s1+n1) (2*s1+n1+n1+n) sz
        for _ in [0:sz] do
          let p:=wW (← get)
          let some (_,_,old):=(if p.size>1 then p[p.size-2]? else none)
            | break
          if old<=pw then break
          if !(← mAt (p.size-2)) then return
        modify λs=>SortSt.mk' (kindOf s) (wU s) ((wW s).modify ((wW s).size-1) λ(st,len,_)=>(st,len,pw)) (gallopOf s) (failedOf s)
      modify λs=>SortSt.mk' (kindOf s) (wU s) ((wW s).push (lo,n,0)) (gallopOf s) (failedOf s)
      lo:=lo+n
    for _ in [0:sz] do
      let p:=wW (← get)
      if p.size<=1 then break
      let i:=p.size-2
      let bf:=if i>0 then p[i-1]?.map (·.2.1) else none
      let i:=if bf.any (· < (p[i+1]?.elim 0 (·.2.1))) then i-1 else i
      if !(← mAt i) then return):=rfl
def Mt:Nat->List (List wM)->List (Nat×Nat×Nat)->Prop
 | _,[],[]=>True
 | off,r :: rs,p :: ps=>p.1=off/\p.2.1=r.length/\Mt (off+r.length) rs ps
 | _,_,_=>False
theorem Mt.length:∀{off:Nat} {rs:List (List wM)} {ps:List (Nat×Nat×Nat)},Mt off rs ps->ps.length=rs.length
 | _,[],[],_=>rfl
 | _,_ :: _,_ :: _,h=>by rw[xn,xn,Mt.length h.2.2]
theorem Mt.append:∀{off:Nat} {rs ts:List (List wM)} {ps us:List (Nat×Nat×Nat)},Mt off rs ps->Mt (off+rs.flatten.length) ts us->Mt off (rs++ts) (ps++us)
 | _,[],_,[],_,_,h=>by simpa using h
 | off,r :: rs,ts,p :: ps,us,h,h'=>by
  refine ⟨h.1,h.2.1,Mt.append h.2.2 ?_⟩
  rw[yu,wj, <- DH] at h'
  exact h'
theorem Mt.split:∀{off:Nat} {rs:List (List wM)} {ps:List (Nat×Nat×Nat)} (i:Nat),Mt off rs ps->i+1<ps.length →
  ∃R1 X Y R2 L1 w1 w2 L2,rs=R1++X :: Y :: R2/\ps=L1++(off+R1.flatten.length,X.length,w1) :: (off+R1.flatten.length+X.length,Y.length,w2) :: L2/\L1.length=i/\Mt off R1 L1/\Mt (off+R1.flatten.length+X.length+Y.length) R2 L2
 | off,r :: r2 :: rs,p :: p2 :: ps,0,h,_=>by
  obtain ⟨a,b,w1⟩:=p
  obtain ⟨c,d,w2⟩:=p2
  obtain ⟨h1,h2,h3,h4,h5⟩:=h
  dsimp only at h1 h2 h3 h4
  subst h1 h2 h3 h4
  exact ⟨[],r,r2,rs,[],w1,w2,ps,rfl,rfl,rfl,trivial,h5⟩
 | off,r :: rs,p :: ps,i+1,h,hl=>by
  rw[xn] at hl
  obtain ⟨R1,X,Y,R2,L1,w1,w2,L2,e1,e2,e3,m1,m2⟩:=Mt.split i h.2.2 (by lia)
  have ea:off+(r :: R1).flatten.length=off+r.length+R1.flatten.length:=by rw[yu,wj];lia
  refine ⟨r :: R1,X,Y,R2,p :: L1,w1,w2,L2,by rw[e1];rfl,?_,by rw[xn,e3],⟨h.1,h.2.1,m1⟩,?_⟩
  ·rw[ea,e2];rfl
  ·rw[ea];exact m2
 | off,[],[],i,_,hl=>by simp at hl
 | off,[_],[_],0,_,hl=>by simp at hl
theorem Mt.modify (f:Nat×Nat×Nat->Nat×Nat×Nat)(hf:∀p,(f p).1=p.1/\(f p).2.1=p.2.1):∀{off:Nat} {rs:List (List wM)} {ps:List (Nat×Nat×Nat)} (i:Nat),Mt off rs ps->Mt off rs (ps.modify i f)
 | _,[],[],i,_=>by cases i <;> exact trivial
 | off,r :: rs,p :: ps,0,h=>⟨(hf p).1.trans h.1,(hf p).2.trans h.2.1,h.2.2⟩
 | off,r :: rs,p :: ps,i+1,h=>⟨h.1,h.2.1,Mt.modify f hf i h.2.2⟩
theorem pP {α:Type}(l:List α)(a b c:α)(r:List α):((l++a :: b :: r).set l.length c).eraseIdx (l.length+1)=l++c :: r:=by
 induction l with
 | nil=>rfl
 | cons x l ih=>simp only[List.cons_append,xn,List.set_cons_succ,List.eraseIdx_cons_succ,ih]
section
variable  {O:A5}(key:wM->O.α)(U:wM->Prop)(κ:SortKind)
structure Rn (a0:List wM)(lo:Nat)(st:w9):Prop where
 ex:∃runs rest,(wU st).toList=runs.flatten++rest/\runs.flatten.length=lo/\(∀r∈runs,r.Pairwise (Le key)/\0<r.length)/\Mt 0 runs (wW st).toList
 perm:(wU st).toList.Perm a0
 k:kindOf st=κ
 f:failedOf st=none
end
section
variable  {prog:wL}{w:xg}{A:xF}{E:wm->wu->Prop}{s:wu}{O:A5}{key:wM->O.α}{U:wM->Prop}{κ:SortKind}
theorem lM (C:Cmp prog w A s O key U κ){a0:List wM}{lo i:Nat}{st:w9}{Q:Bool->w9->Prop}(hu:∀p∈a0,U p)(R:Rn key κ a0 lo st)(hi:i+1<(wW st).size)
  (h:∀st',Rn key κ a0 lo st'->(wW st').size+1=(wW st).size->(wU st').toList.drop lo=(wU st).toList.drop lo->Q true st'):wpS (xk prog w) A E s (mAt i) Q st:=by
 obtain ⟨runs,rest,ea,el,er,em⟩:=R.ex
 obtain ⟨R1,X,Y,R2,L1,w1,w2,L2,e1,e2,e3,m1,m2⟩:=Mt.split i em (by rw[wy];exact hi)
 subst e1
 rw[zo] at e2 m2
 have hx:=er X (by simp)
 have hy:=er Y (by simp)
 have ga:(wW st)[i]? = some (R1.flatten.length,X.length,w1):=by
  rw[<- wI,e2, <- e3,show L1.length=L1.length+0 by lia,m8];rfl
 have gb:(wW st)[i+1]? = some (R1.flatten.length+X.length,Y.length,w2):=by
  rw[<- wI,e2, <- e3,m8];rfl
 refine u5 C (P:=R1.flatten) (X:=X) (Y:=Y) (S:=R2.flatten++rest) R.k R.f (by rw[ea];simp) (λp hp=>hu p (R.perm.mem_iff.mp hp)) ga gb hx.2 hy.2 hx.1 hy.1 λst' M pm sm ar pd kd fl =>?_
 have lm:M.length=X.length+Y.length:=by rw[pm.length_eq,wj]
 have ep:(wW st').toList=L1++(R1.flatten.length,X.length+Y.length,w1) :: L2:=by
  rw[pd,Array.toList_eraseIdxIfInBounds,AR,e2, <- e3]
  exact pP _ _ _ _ _
 refine h st' ⟨⟨R1++M :: R2,rest,?_,?_,λr hr =>?_,?_⟩,?_,kd,fl⟩ ?_ ?_
 ·rw[ar];simp
 ·rw[<- el];simp[lm];lia
 ·rcases wC.mp hr with q | q
  ·exact er r (by simp[q])
  ·rcases wZ.mp q with q | q
   ·rw[q];exact ⟨sm,by have:=hx.2;lia⟩
   ·exact er r (by simp[q])
 ·rw[ep]
  refine Mt.append m1 ⟨by rw[zo],lm.symm,?_⟩
  rw[zo,lm, <- DH]
  exact m2
 ·rw[ar]
  refine List.Perm.trans ?_ R.perm
  rw[ea,show (R1++X :: Y :: R2).flatten++rest=R1.flatten++((X++Y)++(R2.flatten++rest)) by simp]
  exact yJ _ (yY _ pm)
 ·rw[<- wy, <- wy,ep,e2]
  simp only[wj,xn]
  lia
 ·have l1:(R1++M :: R2).flatten.length=lo:=by rw[<- el];simp[lm];lia
  have q1:(wU st').toList=(R1++M :: R2).flatten++rest:=by rw[ar];simp
  rw[q1,ea, <- l1,Bc,l1, <- el,Bc]
theorem Rn.sa {a0:List wM}{lo:Nat}{st st':w9}(R:Rn key κ a0 lo st)(sa:SA lo st st'):Rn key κ a0 lo st':=by
 obtain ⟨runs,rest,ea,el,er,em⟩:=R.ex
 have et:(wU st').toList.take lo=runs.flatten:=by
  have e1:(wU st').toList.take lo=(wU st).toList.take lo:=by
   refine CY λi =>?_
   rw[yz,yz]
   split
   ·rw[wI,wI];exact sa.pre i (by assumption)
   ·rfl
  rw[e1,ea, <- el,List.take_left]
 refine ⟨⟨runs,(wU st').toList.drop lo,by rw[<- et,yK],el,er,by rw[sa.p];exact em⟩,(AS.mp sa.perm).trans R.perm,sa.k.trans R.k,sa.f.trans R.f⟩
theorem pQ {xs:Array wM}{lo n:Nat}(h:Up key xs lo n):((xs.toList.drop lo).take n).Pairwise (Le key):=by
 refine zT.mpr λi j hi hj hij =>?_
 have get:∀k (hk:k<((xs.toList.drop lo).take n).length),key ((xs.toList.drop lo).take n)[k]=kk key xs (lo+k)/\k<n:=λk hk=>by
  have hk':=hk
  rw[xX] at hk'
  refine ⟨?_,by lia⟩
  have e:((xs.toList.drop lo).take n)[k]? = xs[lo+k]? := by
   rw[yz,if_pos (by lia),zD,wI]
  rw[wz hk] at e
  unfold kk
  rw[<- e];rfl
 obtain ⟨e1,l1⟩:=get i hi
 obtain ⟨e2,l2⟩:=get j hj
 show O.kle (key _) (key _)
 rw[e1,e2]
 exact h _ _ (by lia) (by lia) (by lia)
theorem Rn.push {a0:List wM}{lo n:Nat}{st:w9}(R:Rn key κ a0 lo st)(hn:0<n)(hz:lo+n<=(wU st).size)(hs:(((wU st).toList.drop lo).take n).Pairwise (Le key)) :
  Rn key κ a0 (lo+n) (SortSt.mk' (kindOf st) (wU st) ((wW st).push (lo,n,0)) (gallopOf st) (failedOf st)):=by
 obtain ⟨runs,rest,ea,el,er,em⟩:=R.ex
 have ed:(wU st).toList.drop lo=rest:=by rw[ea, <- el,Bc]
 rw[ed] at hs
 have lr:n<=rest.length:=by
  have:=congrArg List.length ea
  rw[wy,wj,el] at this
  lia
 have lt:(rest.take n).length=n:=by rw[xX];lia
 refine ⟨⟨runs++[rest.take n],rest.drop n,?_,?_,λr hr =>?_,?_⟩,R.perm,R.k,R.f⟩
 ·show (wU st).toList=_
  rw[ea];simp
 ·simp[lt,el]
 ·rcases wC.mp hr with q | q
  ·exact er r q
  ·have e:r=rest.take n:=by simpa using q
   rw[e];exact ⟨hs,by lia⟩
 ·show Mt 0 _ ((wW st).push (lo,n,0)).toList
  rw[zf]
  exact Mt.append em ⟨by show lo=_;lia,lt.symm,trivial⟩
theorem Rn.mod {a0:List wM}{lo:Nat}{st:w9}(R:Rn key κ a0 lo st)(i:Nat)(f:Nat×Nat×Nat->Nat×Nat×Nat)(hf:∀p,(f p).1=p.1/\(f p).2.1=p.2.1):Rn key κ a0 lo (SortSt.mk' (kindOf st) (wU st) ((wW st).modify i f) (gallopOf st) (failedOf st)):=by
 obtain ⟨runs,rest,ea,el,er,em⟩:=R.ex
 refine ⟨⟨runs,rest,ea,el,er,?_⟩,R.perm,R.k,R.f⟩
 show Mt 0 runs ((wW st).modify i f).toList
 rw[Array.toList_modify]
 exact Mt.modify f hf i em
theorem u6 {c:Prop}[Decidable c]{n:Nat}(h:1<n):(if c then n-2-1 else n-2)+1<n:=by split <;> omega
theorem j3:∀{runs:List (List wM)},(∀r∈runs,0<r.length)->runs.length<=runs.flatten.length
 | [],_=>wq _
 | r :: rs,h=>by
  have h1:=h r wY
  have h2:=j3 λq hq=>h q (xf _ hq)
  rw[yu,wj,xn]
  lia
theorem q8 (C:Cmp prog w A s O key U κ){a0:List wM}{st:w9}{Q:Unit->w9->Prop}(hu:∀p∈a0,U p)(ha:(wU st).toList=a0)(hp:wW st = #[])(hk:kindOf st=κ)(hf:failedOf st=none)(h1:1<=a0.length)
  (h:∀st',(wU st').toList.Perm a0->(wU st').toList.Pairwise (Le key)->failedOf st'=none->Q () st'):wpS (xk prog w) A E s uf Q st:=by
 rw[qZ]
 refine wK (Bz ?_)
 dsimp only
 have sz0:(wU st).size=a0.length:=by rw[<- wy,ha]
 have szR:∀{lo:Nat} {st':w9},Rn key κ a0 lo st'->(wU st').size=(wU st).size:=λR=>by rw[<- wy,R.perm.length_eq,sz0]
 have uR:∀{lo:Nat} {st':w9},Rn key κ a0 lo st'->∀p∈(wU st').toList,U p:=λR p hp=>hu p (R.perm.mem_iff.mp hp)
 have R0:Rn key κ a0 0 st:=⟨⟨[],a0,by rw[ha];rfl,rfl,λr hr=>(by cases hr),by rw[hp];exact trivial⟩,by rw[ha],hk,hf⟩
 refine wK (yI (xV (I:=λx c st'=>∃lo,c=(none,lo)/\x<=lo/\lo<=(wU st).size/\Rn key κ a0 lo st') (Q:=λc st'=>c=(none,(wU st).size)/\Rn key κ a0 (wU st).size st') ?step ?fin ⟨0,rfl,wq _,xH _,R0⟩) ?post)
 case fin =>
  rintro c st' ⟨lo,rfl,l1,l2,R⟩
  obtain rfl:lo=(wU st).size:=by lia
  exact ⟨rfl,R⟩
 case post =>
  rintro c st1 ⟨rfl,R⟩
  dsimp only
  have p0:(wW st1).size<=(wU st).size:=by
   obtain ⟨runs,rest,ea,el,er,em⟩:=R.ex
   have q:=em.length
   rw[wy] at q
   have:=j3 λr hr=>(er r hr).2
   lia
  refine wK (yI (xV (I:=λx c st'=>c=(none,())/\Rn key κ a0 (wU st).size st'/\((wW st').size<=1\/(wW st').size+x<=(wU st).size)) (Q:=λc st'=>c=(none,())/\Rn key κ a0 (wU st).size st'/\(wW st').size<=1) ?stepB ?finB ⟨rfl,R,.inr (by lia)⟩) ?postB)
  case finB =>
   rintro c st' ⟨rfl,R,q⟩
   exact ⟨rfl,R,by lia⟩
  case stepB =>
   rintro x c st' _ hx ⟨rfl,R,q⟩
   refine wK (Bz ?_)
   by_cases c1:(wW st').size<=1
   ·rw[if_pos c1]
    exact wQ ⟨rfl,R,c1⟩
   rw[if_neg c1]
   refine wK (lM C hu R (u6 (by lia)) λst2 R2 s2 _ =>?_)
   simp only[Bs,yx,if_false]
   exact wQ ⟨rfl,R2,by lia⟩
  case postB =>
   rintro c st' ⟨rfl,R,q⟩
   obtain ⟨runs,rest,ea,el,er,em⟩:=R.ex
   have lm:=em.length
   rw[wy] at lm
   have lr:=congrArg List.length ea
   rw[wy,szR R,wj,el] at lr
   have er0:rest=[]:=Ae.mp (by lia)
   subst er0
   rw[xM] at ea
   match runs,er,lm,el,ea with
   | [],_,_,el,_=>simp at el;lia
   | [r],er,_,_,ea =>
    have e:(wU st').toList=r:=by rw[ea];simp
    exact wQ (h st' R.perm (by rw[e];exact (er r (by simp)).1) R.f)
   | _ :: _ :: _,_,lm,_,_=>simp at lm;lia
 case step =>
  rintro x c st1 _ hx ⟨lo,rfl,l1,l2,R⟩
  dsimp only
  by_cases cl:lo≥(wU st).size
  ·rw[if_pos cl]
   obtain rfl:lo=(wU st).size:=by lia
   exact wQ ⟨rfl,R⟩
  rw[if_neg cl]
  have s1:=szR R
  refine wK (tj C R.k (uR R) (by lia) (by lia) λn st2 n1 n2 sa2 up2 =>?_)
  dsimp only
  have R2:=R.sa sa2
  have s2:=szR R2
  by_cases cm:n<mrn (wU st).size (wU st).size 0
  case' pos =>
   rw[if_pos cm]
   refine wK (B8 (zS ⟨rfl,?_⟩))
   obtain ⟨fo,e⟩:∃fo,fo=min ((wU st).size-lo) (mrn (wU st).size (wU st).size 0):=⟨_,rfl⟩
   rw[<- e]
   refine wK (qY C R2.k (uR R2) (by lia) (by lia) up2 λst3 sa3 up3 =>?_)
   simp only[Bs,yx,if_false]
   have R3:=R2.sa sa3
   have f0:0<fo:=by lia
   have f1:lo+fo<=(wU st).size:=by lia
  case' neg =>
   rw[if_neg cm]
   obtain ⟨fo,e⟩:∃fo,fo=n:=⟨_,rfl⟩
   subst e
   obtain ⟨st3,e3⟩:∃st3,st3=st2:=⟨_,rfl⟩
   subst e3
   have R3:=R2
   have up3:=up2
   have f0:0<fo:=n1
   have f1:lo+fo<=(wU st).size:=by lia
  all_goals
   have srt:=pQ up3
   have s3:=szR R3
   refine wK (Bz ?_)
   cases hbk:(wW st3).back? with
   | none =>
    dsimp only
    exact wK (yV (wQ ⟨lo+fo,rfl,by lia,f1,R3.push f0 (by lia) srt⟩))
   | some t =>
    obtain ⟨t1,t2,t3⟩:=t
    dsimp only
    refine wK (yI (xV (I:=λ_ c st'=>c=(none,())/\Rn key κ a0 lo st'/\(wU st').toList.drop lo=(wU st3).toList.drop lo) (Q:=λc st'=>c=(none,())/\Rn key κ a0 lo st'/\(wU st').toList.drop lo=(wU st3).toList.drop lo) ?stepC ?finC ⟨rfl,R3,rfl⟩) ?postC)
    case finC=>exact λc st' q=>q
    case stepC =>
     rintro z c st4 _ _ ⟨rfl,R4,d4⟩
     refine wK (Bz ?_)
     by_cases p1:(wW st4).size>1
     ·rw[if_pos p1]
      have lt:(wW st4).size-2<(wW st4).size:=by lia
      have e:(wW st4)[(wW st4).size-2]? = some (wW st4)[(wW st4).size-2]:=by simp[lt]
      rw[e]
      dsimp only
      split
      ·exact wQ ⟨rfl,R4,d4⟩
      ·refine wK (lM C hu R4 (by lia) λst5 R5 _ d5 =>?_)
       simp only[Bs,yx,if_false]
       exact wQ ⟨rfl,R5,d5.trans d4⟩
     ·rw[if_neg p1]
      exact wQ ⟨rfl,R4,d4⟩
    case postC =>
     rintro c st4 ⟨rfl,R4,d4⟩
     dsimp only
     have s4:=szR R4
     refine wK (yV (wK (yV (wQ ⟨lo+fo,rfl,by lia,f1,?_⟩))))
     refine Rn.push ?_ f0 ?_ ?_
     ·refine Rn.mod R4 _ _ ?_
      exact λp=>⟨rfl,rfl⟩
     ·show lo+fo<=(wU st4).size
      lia
     ·show (((wU st4).toList.drop lo).take fo).Pairwise (Le key)
      rw[d4]
      exact srt
end
open PySem PyProof.Rows
structure oA (prog:wL)(w:xg)(s:wu)(vs:List wm)(O:A5)(key:wm->O.α):Prop where
 ok:2<=vs.length->∀(A:xF) (h6:Heap),(∀b o,s.heap.get? b=some o->h6.get? b=some o)->∃κ,(∀(Q:SortKind->wu->Prop) (E:wm->wu->Prop),Q κ { s with heap:=h6 }->wX (xk prog w) A (keyKind' vs.toArray) Q E { s with heap:=h6 }) ∧
  Cmp prog w A { s with heap:=h6 } O (λp=>key p.1) (λp=>p.1=p.2/\p.1∈vs) κ
section
variable  {prog:wL}{w:xg}{A:xF}{E:wm->wu->Prop}{s:wu}{O:A5}{key:wm->O.α}
theorem zs:∀vs:List wm,(vs.zip vs).map (·.2)=vs
 | []=>rfl
 | v :: vs=>by rw[CC,xv,zs vs]
theorem lN {l:List wM}{vs:List wm}(h:l.Perm (vs.zip vs)):(l.map (·.2)).Perm vs/\∀p∈l,p.1=p.2/\p.1∈vs:=by
 have e:=zs vs
 refine ⟨by have:=h.map (·.2);rw[e] at this;exact this,λp hp =>?_⟩
 have m:=h.mem_iff.mp hp
 obtain ⟨i,hi⟩:=xI.mp m
 rw[A6] at hi
 have e1:=hi.1.symm.trans hi.2
 exact ⟨xt e1,wR hi.1⟩
theorem jG {a:Addr}{vs:List wm}{n:Nat}{P:Fin->wu->Prop}(ho:s.heap.get? a=some (seqObj "list" vs.toArray n))(hz:vs.length<=wo)
    (hc:2<=vs.length->∀h6,(∀b o,b≠a->s.heap.get? b=some o->h6.get? b=some o)->∃κ,(∀(Q:SortKind->wu->Prop) (E:wm->wu->Prop),Q κ { s with heap:=h6 }->wX (xk prog w) A (keyKind' vs.toArray) Q E { s with heap:=h6 }) ∧
      Cmp prog w A { s with heap:=h6 } O (λp=>key p.1) (λp=>p.1=p.2/\p.1∈vs) κ)
    (h:∀out:List wm,out.Perm vs->out.Pairwise (λx y=>O.kle (key x) (key y))->P (.done (.ret .none)) { s with heap:=sortedHeap s.heap a vs out.toArray }):wX (xk prog w) A (Builtin.«list.sort» ⟨[.ref a],[]⟩) P E s:=by
  rw[list_sort_plain]
  have ha:a<s.heap.objs.size:=wJ ho
  refine wg (C7 ho rfl ?_)
  refine wg (CM ho rfl ?_ (by rw[wk];exact hz) (xH _))
  obtain ⟨e1,ho1⟩:∃e1,(s.heap.update a (Aa λ_ => #[])).get? a=some (seqObj "list" #[] e1):=⟨_,get?_update_seq ho (λ_ => #[])⟩
  refine wg (seqEpoch_at ho1 rfl (wg (wpAny_newTuple ?_ (by exact hz))))
  refine wg (CN ?_ (xH _))
  refine yi ?_
  generalize hH:((s.heap.update a (Aa λ_ => #[])).push (seqObj "tuple" vs.toArray 0)).push (seqObj "list" #[] 0)=h6
  have kp:∀b o,b≠a->s.heap.get? b=some o->h6.get? b=some o:=λb o nb e=>by
    rw[<- hH]
    refine we _ (we _ ?_)
    rw[Cj _ _ _ _ nb]
    exact e
  have ho6:h6.get? a=some (seqObj "list" #[] e1):=by
    rw[<- hH]
    exact we _ (we _ ho1)
  have eH:∀out:List wm,sortedHeap s.heap a vs out.toArray=h6.update a (Aa λ_=>out.toArray):=λout=>by rw[<- hH];rfl
  have go:∀st':w9,(wU st').toList.Perm (vs.zip vs)->(wU st').toList.Pairwise (λp q=>O.kle (key p.1) (key q.1))->failedOf st'=none →
      wX (xk prog w) A (do
        let sorted:=(wU st').map (·.2)
        let touched:=(← seqEpoch a) != e1
        Builtin.List.listUpdate (.ref a) λ_=>sorted
        if let some e:=failedOf st' then rule "list.sort.comparison-raised";throw e
        if touched then rule "list.sort.modified";raiseError "ValueError" "list modified during sort"
        ret .none) P E { s with heap:=h6 }:=by
    intro st' pm ps hf
    obtain ⟨z1,z2⟩:=lN pm
    have em:(wU st').map (·.2)=((wU st').toList.map (·.2)).toArray:=by
      apply De.mp
      rw[Ax]
    dsimp only
    refine wg (seqEpoch_at ho6 rfl ?_)
    refine wg (CM ho6 rfl ?_ (xH _) (by rw[xT, <- wy,pm.length_eq,Dk,BR];lia))
    rw[hf]
    simp only[bne_self_eq_false,yx,if_false]
    refine wA ?_
    rw[em, <- eH]
    refine h _ z1 (yT.mpr (ps.imp_of_mem λ{p q} hp hq le =>?_))
    rw[<- (z2 p hp).1, <- (z2 q hq).1]
    exact le
  by_cases h2:vs.toArray.size<2
  · rw[if_pos h2,if_pos h2]
    refine wg (wA ?_)
    dsimp only
    rw[StateT.run_pure]
    refine wg (wA ?_)
    refine go (SortSt.mk' general' (vs.toArray.zip vs.toArray) #[] 7 none) (by show (vs.toArray.zip vs.toArray).toList.Perm _;simp) ?_ rfl
    rw[wk] at h2
    have et:(vs.toArray.zip vs.toArray).toList=vs.zip vs:=by simp
    show (vs.toArray.zip vs.toArray).toList.Pairwise (λ(p q:wM)=>O.kle (key p.1) (key q.1))
    rw[et]
    have short:∀us:List wm,us.length<2->(us.zip us).Pairwise (λ(p q:wM)=>O.kle (key p.1) (key q.1)):=λus hu=>by
      match us,hu with
      | [],_=>exact List.Pairwise.nil
      | [v],_=>exact yQ _ _
      | _ :: _ :: _,hu=>simp only[xn] at hu;lia
    exact short vs h2
  · rw[if_neg h2,if_neg h2]
    rw[wk] at h2
    obtain ⟨κ,k1,C⟩:=hc (by lia) h6 kp
    refine wg (k1 _ _ ?_)
    have et:(vs.toArray.zip vs.toArray).toList=vs.zip vs:=by simp
    refine wg (zi (q8 C (E:=E) (a0:=vs.zip vs) (st:=SortSt.mk' κ (vs.toArray.zip vs.toArray) #[] 7 none)
      (Q:=λ_ st'=>(wU st').toList.Perm (vs.zip vs)/\(wU st').toList.Pairwise (Le λ(p:wM)=>key p.1)/\failedOf st'=none)
      (lN (A9 _)).2 et rfl rfl rfl (by rw[Dk,BR];lia) λst' a1 a2 a3=>⟨a1,a2,a3⟩) ?_ λ_ _ e=>e)
    rintro ⟨⟨⟩,st'⟩ s' ⟨rfl,hp,hs,hf⟩
    exact go st' hp hs hf
def lP (prog:wL)(w:xg)(s:wu)(v:wm)(vs:List wm):Prop :=
 ∀(A:xF) (E:wm->wu->Prop) (R:List wm->wu->Prop),(∀h1,(∀b o,s.heap.get? b=some o->h1.get? b=some o)->s.heap.objs.size<=h1.objs.size->R vs { s with heap:=h1 })->wX (xk prog w) A (collect v) R E s
theorem m9 {v:wm}{vs:List wm}{Q:wm->wu->Prop}(hv:lP prog w s v vs)(hz:vs.length<=wo)(C:oA prog w s vs O key)
  (h:∀(h':Heap) (p:Addr) (out:List wm) (n:Nat),(∀b o,s.heap.get? b=some o->h'.get? b=some o)->s.heap.objs.size<=p->h'.get? p=some (seqObj "list" out.toArray n)->out.Perm vs->out.Pairwise (λx y=>O.kle (key x) (key y))->Q (.ref p) { s with heap:=h' }) :
  wX (xk prog w) A (call (.builtin "sorted") [v]) Q E s:=by
 refine Calls.call_function_entry kind_sorted plain_sorted entry_sorted (args_sorted1 _) ?_
 unfold Builtin.«sorted»
 refine wg (m:=checkCount "sorted" 1 1 _) (wA ?_)
 refine wg (hv _ _ _ λh1 k1 z1=>wg (CN ?_ hz))
 have hoL:(h1.push (seqObj "list" vs.toArray 0)).get? h1.objs.size=some (seqObj "list" vs.toArray 0):=wH _ rfl
 have kL:∀b o,s.heap.get? b=some o->(h1.push (seqObj "list" vs.toArray 0)).get? b=some o:=λb o e=>we _ (k1 b o e)
 refine wg (yi (yt slot_list_sort ⟨_,hoL,rfl⟩ entry_list_sort (jG (key:=key) (O:=O) hoL hz (λh2 h6 k6 =>?_) λout pm ps=>⟨_,rfl,?_⟩) (args_list_sort _)))
 ·exact C.ok h2 _ h6 λb o e=>k6 b o (wV (wO (wJ e) z1)) (kL b o e)
 ·obtain ⟨n,en⟩:=sortedHeap_at (out:=out.toArray) hoL
  refine wA ⟨_,rfl,h _ _ out n (λb o e =>?_) z1 en pm ps⟩
  have lt:=wO (wJ e) z1
  rw[sortedHeap_old (wV lt) (by rw[size_push'];exact x6 lt)]
  exact kL b o e
theorem kH {l:Addr}{o:Obj}{vs:List wm}{n:Nat}(ho:s.heap.get? l=some o)(hc:o.cls = .type "list" \/ o.cls = .type "tuple")(hd:o.data = .seq vs.toArray n)(hz:vs.length<=wo):lP prog w s (.ref l) vs:=by
  intro A E R h
  unfold collect
  refine wg (Bg (yg entry_proto_collect' ?_))
  show wX _ _ (do again (.builtin "list.__iadd__" ⟨[<- newList [],.ref l],[]⟩)) _ _ s
  refine wg (CN (wA ⟨AZ _ (by decide +kernel),yg entry_list_iadd' ?_⟩))
  show wX _ _ (zM (.ref s.heap.objs.size) (.ref l) (.ref s.heap.objs.size)) _ _ { s with heap:=s.heap.push (seqObj "list" #[] 0) }
  unfold zM
  have ho':(s.heap.push (seqObj "list" #[] 0)).get? l=some o:=we _ ho
  have cond:∀T,o.cls = .type T->(T = "list" \/ T = "tuple")->wX (xk prog w) A (typeOf (.ref l)) (λt s'=>t = .type T/\s'={ s with heap:=s.heap.push (seqObj "list" #[] 0) }) E { s with heap:=s.heap.push (seqObj "list" #[] 0) }:=λT e _=>z9 (T:=T) ⟨o,ho',e⟩ ⟨rfl,rfl⟩
  obtain ⟨T,eT,hT⟩:∃T,o.cls = .type T/\(T = "list" \/ T = "tuple"):=by
    rcases hc with hc | hc
    · exact ⟨_,hc,.inl rfl⟩
    · exact ⟨_,hc,.inr rfl⟩
  refine wg (z9 (T:=T) ⟨o,ho',eT⟩ ?_)
  rw[if_pos (by rcases hT with rfl | rfl <;> simp)]
  refine wg (C7 ho' hd ?_)
  refine wg (C7 (xs := #[]) (n:=0) (wH _ rfl) rfl ?_)
  rw[if_neg (by simp)]
  refine wg (CM (xs := #[]) (n:=0) (wH _ rfl) rfl ?_ (xH _) (by show (#[]++vs.toArray).size<=wo+1;simp only[zO,wk,zH];lia))
  refine wA ?_
  show wX (xk prog w) A (do
      let o ← load s.heap.objs.size
      match o.data with
      | .seq xs _=>pure xs.toList
      | _=>unsupported "internal:collect") R E { s with heap:=(s.heap.push (seqObj "list" #[] 0)).update s.heap.objs.size (Aa (· ++ vs.toArray)) }
  refine wg (DB (get?_update_seq (wH _ rfl) _) ?_)
  show wX _ _ (pure ((#[]:Array wm)++vs.toArray).toList) R E _
  rw[show ((#[]:Array wm)++vs.toArray).toList=vs by simp]
  refine wA (h _ (λb ob e =>?_) ?_)
  · rw[Cj _ _ _ _ (wV (wJ e))]
    exact we _ e
  · rw[Heap.size_update,size_push']
    exact Bq _
end
open PySem PyProof.Rows
theorem lex_irrefl:∀a,HT.lexLt a a=false
 | []=>rfl
 | x :: xs=>by rw[HT.dO,if_pos rfl];exact lex_irrefl xs
theorem lex_trans:∀a b c,HT.lexLt a b=true->HT.lexLt b c=true->HT.lexLt a c=true
 | [],[],_,h,_=>by cases h
 | [],_ :: _,[],_,h=>by cases h
 | [],_ :: _,_ :: _,_,_=>rfl
 | _ :: _,[],_,h,_=>by cases h
 | _ :: _,_ :: _,[],_,h=>by cases h
 | x :: xs,y :: ys,z :: zs,h1,h2=>by
  rw[HT.dO] at *
  by_cases e1:x=y
  ·subst e1
   rw[if_pos rfl] at h1
   by_cases e2:x=z
   ·rw[if_pos e2] at h2 ⊢
    exact lex_trans xs ys zs h1 h2
   ·rw[if_neg e2] at h2 ⊢
    exact h2
  ·rw[if_neg e1] at h1
   have l1:=of_decide_eq_true h1
   by_cases e2:y=z
   ·subst e2
    rw[if_neg e1]
    exact h1
   ·rw[if_neg e2] at h2
    have l2:=of_decide_eq_true h2
    rw[if_neg (by omega)]
    exact decide_eq_true (by omega)
theorem gW:∀a b,HT.lexLt a b=false->HT.lexLt b a=false->a=b
 | [],[],_,_=>rfl
 | [],_ :: _,h,_=>by cases h
 | _ :: _,[],_,h=>by cases h
 | x :: xs,y :: ys,h1,h2=>by
  rw[HT.dO] at *
  by_cases e:x=y
  ·subst e
   rw[if_pos rfl] at h1 h2
   rw[gW xs ys h1 h2]
  ·rw[if_neg e] at h1
   rw[if_neg (zF e)] at h2
   have a1:=of_decide_eq_false h1
   have a2:=of_decide_eq_false h2
   omega
theorem tq (a b c:List Int)(h:HT.lexLt a c=true):HT.lexLt a b=true\/HT.lexLt b c=true:=by
 cases h1:HT.lexLt a b with
 | true=>exact .inl rfl
 | false =>
  right
  cases h2:HT.lexLt b a with
  | true=>exact lex_trans b a c h2 h
  | false=>rw[<- gW a b h1 h2];exact h
def lexOrd:A5 where
 α:=List Int
 blt:=HT.lexLt
 irrefl:=lex_irrefl
 trans:=lex_trans
 negTrans:=tq
 total:=gW
def intOf:wm->Int
 | .int i _=>i
 | _=>0
section
variable  {prog:wL}{w:xg}{A:xF}{E:wm->wu->Prop}{s:wu}
def dS (h:Heap)(v:wm):List Int:=match v with
 | .ref p=>match h.get? p with
  | some o=>match o.data with
   | .seq xs _=>xs.toList.map intOf
   | _=>[]
  | none=>[]
 | _=>[]
def dU (h:Heap)(v:wm)(ns:List Int):Prop:=∃p o xs n,v = .ref p/\h.get? p=some o/\o.cls = .type "tuple" /\ o.data = .seq xs n/\Aj xs.toList ns
theorem ints_map:∀{vs:List wm} {ns:List Int},Aj vs ns->vs.map intOf=ns
 | _,_,.nil=>rfl
 | _,_,.cons n t r=>by rw[xv,ints_map r];rfl
theorem dU.ints {h:Heap}{v:wm}{ns:List Int}(x:dU h v ns):dS h v=ns:=by
 obtain ⟨p,o,xs,n,rfl,e,_,d,r⟩:=x
 unfold dS
 dsimp only
 rw[e]
 dsimp only
 rw[d]
 exact ints_map r
theorem dU.keeps {h h':Heap}{v:wm}{ns:List Int}(x:dU h v ns)(k:∀b o,h.get? b=some o->h'.get? b=some o):dU h' v ns:=by
 obtain ⟨p,o,xs,n,rfl,e,r⟩:=x
 exact ⟨p,o,xs,n,rfl,k _ _ e,r⟩
theorem lQ {fin:Bool}{Q:Bool->wu->Prop}:∀{us ws:List wm} {ns ms:List Int} (i:Nat),Aj us ns->Aj ws ms->(fin=true↔(decide (ns.length<ms.length)=true))->Q (HT.lexLt ns ms) s →
  PySem.W.KatLex prog w A true fin Q (us.zip ws) i s
 | _,_,_,_,i,.nil,.nil,hf,q=>by
  refine BS ?_
  have e:fin=false:=by cases fin with
   | false=>rfl
   | true=>have:=hf.mp rfl;simp at this
  rw[e];exact q
 | _,_,_,_,i,.nil,.cons _ _ _,hf,q=>by
  refine BS ?_
  have e:fin=true:=hf.mpr (by simp)
  rw[e];exact q
 | _,_,_,_,i,.cons _ _ _,.nil,hf,q=>by
  refine BS ?_
  have e:fin=false:=by cases fin with
   | false=>rfl
   | true=>have:=hf.mp rfl;simp at this
  rw[e];exact q
 | _,_,_,_,i,.cons (ns:=ns) a t r,.cons (ns:=ms) c u r',hf,q=>by
  rw[CC]
  refine PySem.W.kat_cons (wpAny_eqBool_int ?_)
  rw[HT.dO] at q
  by_cases e:a=c
  ·rw[if_pos e] at q
   rw[beq_iff_eq.mpr e]
   exact PySem.W.kat_yes (lQ (i+1) r r' (by rw[hf];simp) q)
  ·rw[if_neg e] at q
   rw[beq_eq_false_iff_ne.mpr e]
   refine PySem.W.kat_no ?_
   by_cases i0:(true && i == 0)=true
   ·rw[i0]
    exact oneLt_int q
   ·rw[yU.mpr i0,oneLt'_eq]
    simp only[yx,if_false]
    refine wg (HT.lH _ _ a t c u prog w _ _ ?_)
    exact yh q
theorem i3 {h:Heap}:∀{vs:List wm},(∀v∈vs,∃ns,dU h v ns/\ns≠[])->∃fs,PySem.W.KatTups h vs fs/\fs.length=vs.length/\∀f∈fs,∃i t,f = .int i t
 | [],_=>⟨[],trivial,rfl,λf hf=>by cases hf⟩
 | v :: vs,hv=>by
  obtain ⟨fs,t,l,hf⟩:=i3 λu hu=>hv u (xf _ hu)
  obtain ⟨ns,⟨p,o,xs,n,rfl,e,c,d,r⟩,ne⟩:=hv v wY
  have hx:∃i t,xs[0]? = some (.int i t):=by
   rw[<- wI]
   generalize xs.toList=l at r
   cases r with
   | nil=>exact absurd rfl ne
   | cons i t r=>exact ⟨i,t,rfl⟩
  obtain ⟨i,t',hx⟩:=hx
  exact ⟨.int i t' :: fs,DM e c d hx t,by rw[xn,xn,l],λf hf'=>by
   rcases wZ.mp hf' with q | q
   ·exact ⟨i,t',q⟩
   ·exact hf f q⟩
theorem kI {vs:List wm}(hv:∀v∈vs,∃ns,dU s.heap v ns/\ns≠[]):oA prog w s vs lexOrd (dS s.heap):=by
 refine ⟨λh2 A h6 k6=>⟨tuples' true,λQ E q =>?_,⟨λE st x y Q hk hx hy q =>?_⟩⟩⟩
 ·obtain ⟨fs,t,l,hf⟩:=i3 (h:=h6) (vs:=vs) λv hv'=>by
   obtain ⟨ns,i,ne⟩:=hv v hv'
   exact ⟨ns,i.keeps k6,ne⟩
  refine PySem.W.kat_kind (T :=.type "int") t (by lia) (λf hf' =>?_) rfl q
  obtain ⟨i,t',rfl⟩:=hf f hf'
  exact DK rfl
 ·obtain ⟨ns,i1,_⟩:=hv _ hx.2
  obtain ⟨ms,i2,_⟩:=hv _ hy.2
  have q':Q (some (HT.lexLt (dS s.heap x.1) (dS s.heap y.1))) st:=q
  rw[i1.ints,i2.ints] at q'
  obtain ⟨p1,o1,xs1,n1,e1,g1,c1,d1,r1⟩:=i1.keeps k6
  obtain ⟨p2,o2,xs2,n2,e2,g2,c2,d2,r2⟩:=i2.keeps k6
  rw[lt'_eq]
  refine wK (Bz ?_)
  rw[hk,e1,e2]
  have l1:=r1.length
  have l2:=r2.length
  refine wK (B8 (wpAny_attempt (PySem.W.kat_lt g1 d1 g2 d2 (lQ 0 r1 r2 ?_ ⟨rfl,?_⟩))))
  ·rw[<- l1, <- l2,wy,wy]
  ·exact wQ q'
end
end Srt
namespace L2
open PySem PySem.Spec PyProof.Rows
theorem ng {α β:Type}{f:α -> β}:∀{l:List β} {m:List α},l.Perm (m.map f)->∃m':List α,m'.Perm m/\l=m'.map f:=by
 intro l m h
 generalize hk:m.map f=k at h
 induction h generalizing m with
 | nil =>
  have:m=[]:=Ck.mp hk
  exact ⟨[],by rw[this],rfl⟩
 | cons x _ ih =>
  match m,hk with
  | y :: m,hk =>
   rw[xv] at hk
   injection hk with h1 h2
   obtain ⟨m',p,e⟩:=ih h2
   exact ⟨y :: m',p.cons y,by rw[xv, <- e,h1]⟩
  | [],hk=>cases hk
 | swap x y l =>
  match m,hk with
  | a :: b :: m,hk =>
   rw[xv,xv] at hk
   injection hk with h1 h2
   injection h2 with h2 h3
   exact ⟨b :: a :: m,List.Perm.swap a b m,by rw[xv,xv,h1,h2,h3]⟩
  | [],hk=>cases hk
  | [_],hk=>simp at hk
 | trans _ _ ih1 ih2 =>
  obtain ⟨m',p,e⟩:=ih2 hk
  obtain ⟨m'',p',e'⟩:=ih1 e.symm
  exact ⟨m'',p'.trans p,e'⟩
theorem gs:∀{ns:List Int} {us:List wm},Vals (ns.map V.int) us->Aj us ns:=λr=>intsAre_of r
theorem kJ:∀{us:List wm} {ns:List Int},Aj us ns->Vals (ns.map V.int) us:=λr=>gQ r
theorem j4:∀{us:List wm},(∀u∈us,∃i t,u=xZ i t)->Aj us (us.map Srt.intOf)
 | [],_ =>.nil
 | u :: us,h=>by
  obtain ⟨i,t,e⟩:=h u wY
  subst e
  exact .cons i t (j4 λv hv=>h v (xf _ hv))
theorem j5:∀{α:Type} {f:α -> Addr} {ps:List α} {us:List wm},Vals (ps.map λx=>V.ref (f x)) us->us=ps.map λx=>wN (f x)
 | _,_,[],_,r=>by cases r;rfl
 | _,f,p :: ps,_,r=>by
  cases r with
  | cons h t=>rw[xv, <- j5 t,show _=wN (f p) from h]
theorem j6 {α:Type}{f:α -> Addr}:∀{ps:List α},Vals (ps.map λx=>V.ref (f x)) (ps.map λx=>wN (f x))
 | [] =>.nil
 | p :: ps =>.cons rfl j6
section
variable  {X:Cx}
theorem Inv.q9 {pins:List (Addr×Obj)}{σ:St}{H:Hp}{s:wu}{p:Addr}{ys:List V}(I:Inv X pins σ H s)(h:SqL X.K H p ys\/SqT X.K H p ys) :
  ∃(its:List wm) (o:Obj) (n:Nat),Vals ys its/\s.heap.get? p=some o/\(o.cls = .type "list" \/ o.cls = .type "tuple")/\o.data = .seq its.toArray n/\ys.length<=wo:=by
 rcases h with h | h
 ·obtain ⟨its,r,⟨o,n,e,c,_,d⟩,z⟩:=I.list h
  exact ⟨its,o,n,r,e,.inl c,d,z⟩
 ·obtain ⟨its,r,⟨o,e,c,n,d⟩,z⟩:=I.tuple h
  exact ⟨its,o,n,r,e,.inr c,d,z⟩
theorem Inv.newList {pins:List (Addr×Obj)}{σ:St}{H:Hp}{s:wu}{h':Heap}{p:Addr}{ys:List V}{its:List wm}{n:Nat}(I:Inv X pins σ H s)(k:∀b o,s.heap.get? b=some o->h'.get? b=some o)(hp:s.heap.objs.size<=p)
  (e:h'.get? p=some { cls :=.type "list",data :=.seq its.toArray n }) (r:Vals ys its) (hz:ys.length<=wo):Inv X pins σ (upd H p (.lst ys)) { s with heap:=h' } :=
 I.laid (t':=s.toks) k hp ⟨hz,its,n,r,e⟩
theorem gu:bL X (.builtin "sorted") (λxs H Q=>∃(p:Addr) (ts:List (Addr×List Int)),xs=[.ref p]/\(SqL X.K H p (ts.map λt =>.ref t.1)\/SqT X.K H p (ts.map λt =>.ref t.1))/\(∀t∈ts,SqT X.K H t.1 (t.2.map V.int)/\t.2≠[]) ∧
  ∀(l:Addr) (out:List (Addr×List Int)),H l=none->out.Perm ts->out.Pairwise (λa b=>HT.lexLt b.2 a.2=false)->Q (.ref l) (upd H l (.lst (out.map λt =>.ref t.1)))):=by
 intro pins s σ H xs us Q I r h
 obtain ⟨p,ts,rfl,hs,ht,q⟩:=h
 obtain ⟨u,rfl,ru⟩:=vals1 r
 cases (show u=wN p from ru)
 obtain ⟨its,o,n,rv,e,c,d,z⟩:=I.q9 hs
 have ei:=j5 rv
 have lz:its.length<=wo:=by rw[<- rv.length];exact z
 have tup:∀t∈ts,Srt.dU s.heap (wN t.1) t.2:=λt hm=>by
  obtain ⟨jts,jr,⟨jo,je,jc,jn,jd⟩,_⟩:=I.tuple (ht t hm).1
  exact ⟨t.1,jo,_,jn,rfl,je,jc,jd,by simpa using gs jr⟩
 have hv:∀v∈its,∃ns,Srt.dU s.heap v ns/\ns≠[]:=λv hv=>by
  rw[ei] at hv
  obtain ⟨t,hm,rfl⟩:=yv.mp hv
  exact ⟨t.2,tup t hm,(ht t hm).2⟩
 refine Srt.m9 (Srt.kH e c d lz) lz (Srt.kI hv) λh' l out m k hl el pm ps =>?_
 rw[ei] at pm
 obtain ⟨out',pm',rfl⟩:=ng pm
 refine ⟨.ref l,_,I.newList k hl el j6 (by rw[wd,pm'.length_eq, <- wd (f:=λt:Addr×List Int=>V.ref t.1)];exact z),rfl,q l _ (I.hok.fresh hl) pm' ?_⟩
 refine (yT.mp ps).imp_of_mem λ{a b} ha hb le =>?_
 have le':HT.lexLt (Srt.dS s.heap (wN b.1)) (Srt.dS s.heap (wN a.1))=false:=le
 rw[(tup a (pm'.mem_iff.mp ha)).ints,(tup b (pm'.mem_iff.mp hb)).ints] at le'
 exact le'
end
open PySem PySem.Spec PyProof.Rows
def Tp (H H':Hp):Prop:=∀b xs,H b=some (.tup xs)->H' b=some (.tup xs)
theorem aK.tp {H H':Hp}(a:aK H H'):Tp H H':=λc u h=>a c _ h
def mnI (a b:Int):Int:=if b<a then b else a
def mxI (a b:Int):Int:=if b>a then b else a
def nrm (a b:Int):List Int:=[mnI a b,mxI a b]
theorem ra (a b:Int):nrm a b=nrm b a:=by
 have h1:mnI a b=mnI b a:=by unfold mnI;split <;> split <;> lia
 have h2:mxI a b=mxI b a:=by unfold mxI;split <;> split <;> lia
 unfold nrm
 rw[h1,h2]
open PySem PySem.Spec PyProof.Rows
section
variable  {X:Cx}{tg:Expr}
def iSeq (K:wc)(tl:TE):TI:=λσ H R=>tl σ H λx H1=>∃a,x = .ref a/\(((∃xs,SqL K H1 a xs)/\R (Itl K a) H1)\/((∃xs,SqT K H1 a xs)/\R (Itt K a) H1))
theorem rb {l:Expr}{tl:TE}(hl:PE X l tl):PI X tg l (iSeq X.K tl):=by
 intro pins s σ H R I h;refine thn (hl pins s σ H _ I h) λv s1 ⟨x,H1,I1,r1,q1⟩ =>?_
 obtain ⟨a,e,q1⟩:=q1
 subst e
 cases r1
 have fp:∀b∈[s1.heap.objs.size],iw X pins H1 b:=λb hb=>by
  have e:b=s1.heap.objs.size:=by simpa using hb
  rw[e];exact I1.ph (wq _) (I1.hok.fresh (wq _))
 rcases q1 with ⟨⟨xs,hq⟩,q⟩ | ⟨⟨xs,hq⟩,q⟩
 ·obtain ⟨its,rv,p,hz⟩:=I1.list hq;refine zR p.isList ?_
  exact ⟨s1.heap.objs.size,_,_,_,H1,rfl,I1.kept (t':=s1.toks) (λb o e=>we _ e),jR a _,⟨_,wH _ rfl,rfl,rfl⟩,fp,q⟩
 ·obtain ⟨its,rv,p,hz⟩:=I1.tuple hq;refine yB (show s1.heap.IsTuple a its.toArray from p) ?_
  exact ⟨s1.heap.objs.size,_,_,_,H1,rfl,I1.kept (t':=s1.toks) (λb o e=>we _ e),iR a _,⟨_,wH _ rfl,rfl,rfl⟩,fp,q⟩
end
theorem pR {K:wc}{a:Addr}{xs:List V}{k:Nat}{tc:TT}{te:TE}{τ:St}{H:Hp}{Q:VK}(Pv:Nat->List V->Hp->Prop)(hp:H a=some (.lst xs)\/H a=some (.tup xs))(h0:Pv 0 [] H)(hz:xs.length<=wo)
  (hl:∀i ys H',Pv i ys H'->H' a=H a) (hs:∀i x ys H,xs[i]? = some x->ys.length<=i->Pv i ys H->om k tc te τ Pv i x ys H)
  (hd:∀ys H,ys.length<=xs.length->Pv xs.length ys H->∀l,H l=none->Q (.ref l) (upd H l (.lst ys))) :
  ((∃xs,SqL K H a xs)/\fM (Itl K a) (dC k) tc te τ Q H)\/((∃xs,SqT K H a xs)/\fM (Itt K a) (dC k) tc te τ Q H):=by
 rcases hp with hp | hp
 ·exact .inl ⟨⟨_,SqL.of hp⟩,fR Pv h0 hz (λi ys H' _ z=>SqL.of ((hl i ys H' z).trans hp)) hs hd⟩
 ·exact .inr ⟨⟨_,SqT.of hp⟩,gR Pv h0 hz (λi ys H' _ z=>SqT.of ((hl i ys H' z).trans hp)) hs hd⟩
theorem rd {X:Cx}{K:wc}{x y:Str}{i j k:Nat}{p p' pos:Pos}(hN:X.N.Nodup)(hi:X.N[i]? = some x)(hj:X.N[j]? = some y)(hx:Loc X.env.scope x)(hy:Loc X.env.scope y)(hc:X.calm=true:=by rfl)(h:X.K=K:=by rfl)
  (hf:X.fn x=true\/X.env.scope.names.lookup x=some .local:=by first | exact .inl rfl | exact .inr rfl) (hg:X.fn y=true\/X.env.scope.names.lookup y=some .local:=by first | exact .inl rfl | exact .inr rfl):PG X (.Tuple [.Name x p,.Name y p'] k pos) (ue K i j):=by
 subst h
 exact gL hc (bH (aD hN hi hx hf) (bH (aD hN hj hy hg) fu))
end L2
namespace STab
open PySem PySem.SetTable
def nh (xs:Array Nat):Prop:=∀i j a b:Nat,xs[i]? = some a->xs[j]? = some b->i<j->a<b
theorem rf {xs:Array Nat}(R:nh xs)(j:Nat):∀(fuel lo hi:Nat),lo<=hi->hi<=xs.size->hi-lo<=fuel →
  (∀i a,i<lo->xs[i]? = some a->a<j)->(∀i a,hi<=i->xs[i]? = some a->j<=a) →
  below.go xs j fuel lo hi<=xs.size/\(∀i a,xs[i]? = some a->(i<below.go xs j fuel lo hi↔a<j)):=by
 intro fuel
 induction fuel with
 | zero =>
  intro lo hi h1 h2 h3 h4 h5
  unfold below.go
  refine ⟨by lia,λi a e=>⟨λq=>h4 i a q e,λq =>?_⟩⟩
  apply zV
  intro q2
  have:=h5 i a (by lia) e
  lia
 | succ fuel ih =>
  intro lo hi h1 h2 h3 h4 h5
  unfold below.go
  by_cases hl:lo<hi
  ·rw[if_pos hl]
   dsimp only
   have hm:(lo+hi)/2<xs.size:=by lia
   have em:xs[(lo+hi)/2]? = some xs[(lo+hi)/2]:=x9 hm
   have eg:xs.getD ((lo+hi)/2) j=xs[(lo+hi)/2]:=by simp[Array.getD,hm]
   rw[eg]
   by_cases hc:xs[(lo+hi)/2]<j
   ·rw[if_pos hc]
    refine ih _ _ (by lia) h2 (by lia) (λi a q e =>?_) h5
    by_cases q2:i=(lo+hi)/2
    ·rw[q2,em] at e;cases e;exact hc
    ·exact Nat.lt_trans (R i _ _ _ e em (by lia)) hc
   ·rw[if_neg hc]
    refine ih _ _ (by lia) (by lia) (by lia) h4 (λi a q e =>?_)
    by_cases q2:i=(lo+hi)/2
    ·rw[q2,em] at e;cases e;lia
    ·have:=R _ i _ _ em e (by lia)
     lia
  ·rw[if_neg hl]
   refine ⟨by lia,λi a e=>⟨λq=>h4 i a q e,λq =>?_⟩⟩
   apply zV
   intro q2
   have:=h5 i a (by lia) e
   lia
theorem fS {xs:Array Nat}(R:nh xs)(j:Nat):below xs j<=xs.size/\∀i a,xs[i]? = some a->(i<below xs j↔a<j) :=
 rf R j _ _ _ (xH _) (wq _) (by lia) (λi a h=>by lia) λi a h e=>by
  rw[An (by lia)] at e;cases e
theorem below_at {xs:Array Nat}(R:nh xs){i j:Nat}(h:xs[i]? = some j):below xs j=i:=by
 obtain ⟨h1,h2⟩:=fS R j
 have hi:i<xs.size:=by
  apply zV;intro q;rw[An q] at h;cases h
 have a1:¬ i<below xs j:=λq=>by have:=(h2 i j h).mp q;lia
 apply BP (by lia)
 apply C9
 intro q
 have e:=x9 (xs:=xs) (i:=below xs j) (by lia)
 have l1:=R _ _ _ _ e h q
 have:=(h2 _ _ e).mpr l1
 lia
theorem bO {α:Type}(xs:Array α)(p:Nat)(x:α):(insertAt xs p x).toList=xs.toList.take p++x :: xs.toList.drop p:=by
 unfold insertAt
 simp
 rw[yd (by simp)]
theorem bZ {α:Type}(xs:Array α){p:Nat}(hp:p<=xs.size)(x:α)(i:Nat) :
  (insertAt xs p x)[i]? = if i<p then xs[i]? else if i=p then some x else xs[i-1]? := by
 rw[<- wI,bO]
 have hl:(xs.toList.take p).length=p:=by rw[xX,wy];lia
 by_cases h1:i<p
 ·rw[if_pos h1,y9 (by lia),yz,if_pos h1,wI]
 ·rw[if_neg h1,yZ (by lia),hl]
  by_cases h2:i=p
  ·rw[if_pos h2,h2,Nat.sub_self];rfl
  ·rw[if_neg h2]
   obtain ⟨d,hd⟩:∃d,i-p=d+1:=⟨i-p-1,by lia⟩
   rw[hd,zu,zD,wI]
   congr 1;lia
theorem cE {α:Type}(xs:Array α)(p:Nat)(x:α):(insertAt xs p x).size=xs.size+1:=by
 rw[<- wy,bO,wj,xn,xX,yp,wy]
 lia
theorem insertAt_perm {α:Type}(xs:Array α)(p:Nat)(x:α):(insertAt xs p x).toList.Perm (x :: xs.toList):=by
 rw[bO]
 exact Dc.trans (by rw[yK])
theorem gv {α β:Type}(xs:Array α)(p:Nat)(x:α)(f:α -> β):(insertAt xs p x).map f=insertAt (xs.map f) p (f x):=by
 apply De.mp
 rw[Ax,bO,bO,Ax,wB,xv,zP,CD]
theorem jH {xs:Array Nat}(R:nh xs){j:Nat}(hj:∀i:Nat,xs[i]? ≠ some j):nh (insertAt xs (below xs j) j):=by
 obtain ⟨h1,h2⟩:=fS R j
 intro a b x y ea eb hab
 rw[bZ _ h1] at ea eb
 by_cases a1:a<below xs j
 ·rw[if_pos a1] at ea
  have:=(h2 _ _ ea).mp a1
  by_cases b1:b<below xs j
  ·rw[if_pos b1] at eb;exact R _ _ _ _ ea eb hab
  ·rw[if_neg b1] at eb
   by_cases b2:b=below xs j
   ·rw[if_pos b2] at eb;cases eb;exact this
   ·rw[if_neg b2] at eb
    exact R _ _ _ _ ea eb (by lia)
 ·rw[if_neg a1] at ea
  rw[if_neg (by lia),if_neg (by lia)] at eb
  have l1:¬ y<j:=λq=>by have:=(h2 _ _ eb).mpr q;lia
  by_cases a2:a=below xs j
  ·rw[if_pos a2] at ea;cases ea
   have:y≠j:=λq=>hj _ (q ▸ eb)
   lia
  ·rw[if_neg a2] at ea
   exact R _ _ _ _ ea eb (by lia)
def occ (t:SetTable)(j:Nat):Prop:=∃i:Nat,t.place[i]? = some j
theorem j7 {t:SetTable}(R:nh t.place){i j:Nat}(h:t.place[i]? = some j):t.slot j = .live i:=by
 unfold SetTable.slot
 dsimp only
 rw[below_at R h,h]
 simp
theorem ni {t:SetTable}(D:t.dummies = #[]){j:Nat}(h:¬ occ t j):t.slot j = .empty:=by
 unfold SetTable.slot
 dsimp only
 have h1:(t.place[below t.place j]? == some j)=false:=by
  rw[beq_eq_false_iff_ne];exact λq=>h ⟨_,q⟩
 rw[h1,D]
 simp[has]
def adv (mask:Nat)(p:Probe):Probe :=
 if p.more>0 then { p with j:=p.j+1,more:=p.more-1 } else
 let (i,perturb):=leap mask p.i p.perturb
 { p with j:=i,more:=runEnd mask i-i,i,perturb }
def cF (mask i perturb:Nat):Probe:={ j:=i,more:=runEnd mask i-i,i,perturb,dummy:=none }
def start (mask:Nat)(h:Int):Probe:=cF mask (bits h%(mask+1)) (bits h)
inductive Way (oc:Nat->Prop)(mask:Nat):Nat->Probe->Probe->Prop
 | here (p:Probe):Way oc mask 0 p p
 | step {n:Nat} {p q:Probe}:oc p.j->Way oc mask n (adv mask p) q->Way oc mask (n+1) p q
theorem Way.mono {oc oc':Nat->Prop}{mask n:Nat}{p q:Probe}(m:∀j,oc j->oc' j)(h:Way oc mask n p q):Way oc' mask n p q:=by
 induction h with
 | here p=>exact .here p
 | step a _ ih=>exact .step (m _ a) ih
theorem Way.dummy {oc:Nat->Prop}{mask n:Nat}{p q:Probe}(h:Way oc mask n p q):q.dummy=p.dummy:=by
 induction h with
 | here p=>rfl
 | @step n p q _ _ ih =>
  rw[ih];unfold adv;split <;> rfl
theorem u7 {mask:Nat}{p:Probe}(h:p.j+p.more<=mask):(adv mask p).j+(adv mask p).more<=mask:=by
 unfold adv
 split
 ·dsimp only;lia
 ·dsimp only[leap]
  have:(p.i*5+1+p.perturb/32)%(mask+1)<mask+1:=AE _ (z5 mask)
  unfold runEnd
  split <;> lia
theorem lR (mask:Nat)(h:Int):(start mask h).j+(start mask h).more<=mask:=by
 unfold start cF
 dsimp only
 have:bits h%(mask+1)<mask+1:=AE _ (z5 mask)
 unfold runEnd
 split <;> lia
theorem Way.le {oc:Nat->Prop}{mask n:Nat}{p q:Probe}(h:Way oc mask n p q):p.j+p.more<=mask->q.j<=mask:=by
 induction h with
 | here p=>intro;lia
 | step _ _ ih=>intro h;exact ih (u7 h)
def kK (mask:Nat):Nat->Probe->Probe
 | 0,p=>p
 | n+1,p=>kK mask n (adv mask p)
theorem lS (mask:Nat):∀(a b:Nat) (p:Probe),kK mask (a+b) p=kK mask b (kK mask a p)
 | 0,b,p=>by rw[zo];rfl
 | a+1,b,p=>by rw[show a+1+b=(a+b)+1 by lia];exact lS mask a b (adv mask p)
theorem pS (oc:Nat->Prop)(mask:Nat):∀(n:Nat) (p:Probe),¬ oc (kK mask n p).j->∃k q,k<=n/\Way oc mask k p q/\¬ oc q.j:=by
 intro n
 induction n with
 | zero=>intro p h;exact ⟨0,p,wq _,.here p,h⟩
 | succ n ih =>
  intro p h
  by_cases hp:oc p.j
  ·obtain ⟨k,q,a,b,c⟩:=ih (adv mask p) h
   exact ⟨k+1,q,by lia,.step hp b,c⟩
  ·exact ⟨0,p,xH _,.here p,hp⟩
theorem tw (mask:Nat):∀(m:Nat) (p:Probe),p.more=m->p.dummy=none->kK mask (m+1) p=cF mask (leap mask p.i p.perturb).1 (leap mask p.i p.perturb).2:=by
 intro m
 induction m with
 | zero =>
  intro p h d
  show adv mask p=_
  unfold adv
  rw[if_neg (by lia)]
  obtain ⟨j,mo,i,pe,dm⟩:=p
  cases d
  rfl
 | succ m ih =>
  intro p h d
  show kK mask (m+1) (adv mask p)=_
  have e:adv mask p={ p with j:=p.j+1,more:=p.more-1 }:=by unfold adv;rw[if_pos (by lia)]
  rw[e]
  exact ih _ (by dsimp only;lia) d
def cp (mask:Nat):Nat->Nat×Nat->Nat×Nat
 | 0,x=>x
 | k+1,x=>cp mask k (leap mask x.1 x.2)
theorem j8 (mask:Nat):∀(a b:Nat) (x:Nat×Nat),cp mask (a+b) x=cp mask b (cp mask a x)
 | 0,b,x=>by rw[zo];rfl
 | a+1,b,x=>by rw[show a+1+b=(a+b)+1 by lia];exact j8 mask a b _
theorem more_le (mask i:Nat):runEnd mask i-i<=9:=by unfold runEnd;split <;> lia
theorem nk (mask:Nat):∀(k i pe:Nat),∃n,n<=10*k/\kK mask n (cF mask i pe)=cF mask (cp mask k (i,pe)).1 (cp mask k (i,pe)).2:=by
 intro k
 induction k with
 | zero=>intro i pe;exact ⟨0,by lia,rfl⟩
 | succ k ih =>
  intro i pe
  obtain ⟨n,h1,h2⟩:=ih (leap mask i pe).1 (leap mask i pe).2
  refine ⟨(runEnd mask i-i+1)+n,by have:=more_le mask i;lia,?_⟩
  rw[lS,tw mask (runEnd mask i-i) (cF mask i pe) rfl rfl]
  exact h2
theorem fN (mask:Nat):∀(k i pe:Nat),(cp mask k (i,pe)).2=pe/32 ^ k
 | 0,i,pe=>by simp[cp]
 | k+1,i,pe=>by
  show (cp mask k (leap mask i pe)).2=_
  rw[show leap mask i pe=((leap mask i pe).1,pe/32) from rfl,fN mask k,Nat.div_div_eq_div_mul,Nat.pow_succ,Nat.mul_comm 32]
theorem lT (mask:Nat):∀(k i pe:Nat),i<=mask->(cp mask k (i,pe)).1<=mask
 | 0,i,pe,h=>h
 | k+1,i,pe,h=>by
  show (cp mask k (leap mask i pe)).1<=mask
  rw[show leap mask i pe=((leap mask i pe).1,pe/32) from rfl]
  exact lT mask k _ _ (zQ (AE _ (z5 mask)))
def ste (m i:Nat):Nat:=(i*5+1)%m
def its (m:Nat):Nat->Nat->Nat
 | 0,i=>i
 | n+1,i=>its m n (ste m i)
theorem iC (m:Nat):∀(a b i:Nat),its m (a+b) i=its m b (its m a i)
 | 0,b,i=>by rw[zo];rfl
 | a+1,b,i=>by rw[show a+1+b=(a+b)+1 by lia];exact iC m a b _
def orb (m:Nat):Nat->Nat->List Nat
 | 0,_=>[]
 | n+1,i=>i :: orb m n (ste m i)
theorem kM (m:Nat):∀(n i j:Nat),j∈orb m n i->∃r,r<n/\its m r i=j
 | 0,i,j,h=>by cases h
 | n+1,i,j,h=>by
  rcases wZ.mp h with h | h
  ·exact ⟨0,by lia,h.symm⟩
  ·obtain ⟨r,a,b⟩:=kM m n _ _ h
   exact ⟨r+1,by lia,b⟩
def whole (m:Nat):Bool:=((xE m).all λj=>(orb m m 0).contains j) && (its m m 0 == 0)
theorem pT {m:Nat}(h:whole m=true){i j:Nat}(hi:i<m)(hj:j<m):∃r,r<m/\its m r i=j:=by
 unfold whole at h
 rw[xQ,yq,beq_iff_eq] at h
 obtain ⟨h1,h2⟩:=h
 obtain ⟨a,a1,a2⟩:=kM m m 0 i (BU.mp (h1 i (xD.mpr hi)))
 obtain ⟨b,b1,b2⟩:=kM m m 0 j (BU.mp (h1 j (xD.mpr hj)))
 by_cases hab:a<=b
 ·refine ⟨b-a,by lia,?_⟩
  rw[<- a2, <- iC,show a+(b-a)=b by lia]
  exact b2
 ·refine ⟨m+b-a,by lia,?_⟩
  rw[<- a2, <- iC,show a+(m+b-a)=m+b by lia,iC,h2]
  exact b2
theorem u9:whole 8=true:=by decide +kernel
theorem tx:whole 32=true:=by decide +kernel
theorem rg:whole 128=true:=by decide +kernel
theorem rh:whole 512=true:=by decide +kernel
def Msk (mask:Nat):Prop:=mask=7\/mask=31\/mask=127\/mask=511
theorem Msk.whole {mask:Nat}(h:Msk mask):whole (mask+1)=true:=by
 rcases h with rfl | rfl | rfl | rfl
 ·exact u9
 ·exact tx
 ·exact rg
 ·exact rh
theorem j9 (mask:Nat):∀(r i:Nat),cp mask r (i,0)=(its (mask+1) r i,0)
 | 0,i=>rfl
 | r+1,i=>by
  show cp mask r (leap mask i 0)=_
  rw[show leap mask i 0=(ste (mask+1) i,0) from rfl,j9 mask r];rfl
theorem tD (h:Int):bits h<2 ^ 64:=by
 unfold bits
 have h1:=Af h (show (0:Int)<2 ^ 64 by decide)
 have h0:=AK h (show (2 ^ 64:Int)≠0 by decide)
 have:((2 ^ 64:Nat):Int)=2 ^ 64:=by decide
 lia
theorem i4 {mask:Nat}(hm:Msk mask){h:Int}{j:Nat}(hj:j<=mask):∃k,k<turns mask/\(cp mask k (bits h%(mask+1),bits h)).1=j:=by
 have p0:(cp mask 13 (bits h%(mask+1),bits h)).2=0:=by
  rw[fN]
  exact Nat.div_eq_of_lt (wO (tD h) (by decide))
 have i0:=lT mask 13 (bits h%(mask+1)) (bits h) (zQ (AE _ (z5 mask)))
 obtain ⟨r,r1,r2⟩:=pT hm.whole (i:=(cp mask 13 (bits h%(mask+1),bits h)).1) (j:=j) (by lia) (by lia)
 refine ⟨13+r,by unfold turns;lia,?_⟩
 rw[j8,show cp mask 13 (bits h%(mask+1),bits h)=((cp mask 13 (bits h%(mask+1),bits h)).1,0) from DF rfl p0,j9]
 exact r2
theorem rj {mask:Nat}(hm:Msk mask)(oc:Nat->Prop)(h:Int){j:Nat}(hj:j<=mask)(he:¬ oc j):∃n q,n<10*turns mask/\Way oc mask n (start mask h) q/\¬ oc q.j/\q.j<=mask/\q.dummy=none:=by
 obtain ⟨k,k1,k2⟩:=i4 hm (h:=h) hj
 obtain ⟨n,n1,n2⟩:=nk mask k (bits h%(mask+1)) (bits h)
 obtain ⟨n',q,a,b,c⟩:=pS oc mask n (start mask h) (by
  show ¬ oc (kK mask n (cF mask _ _)).j
  rw[n2]
  show ¬ oc (cp mask k (bits h%(mask+1),bits h)).1
  rw[k2]
  exact he)
 exact ⟨n',q,by lia,b,c,b.le (lR mask h),b.dummy⟩
theorem kf {mask n:Nat}(oc:Nat->Prop)(f:Nat->Nat)(hf:∀j,j<=mask->oc j->f j<n)(inj:∀i j,i<=mask->j<=mask->oc i->oc j->f i=f j->i=j)(hn:n<=mask):∃j,j<=mask/\¬ oc j:=by
 by_cases q:∃j,j<=mask/\¬ oc j
 ·exact q
 ·exfalso
  have all:∀j,j<=mask->oc j:=λj hj=>by
   by_cases o:oc j
   ·exact o
   ·exact absurd ⟨j,hj,o⟩ q
  have nd:((xE (mask+1)).map f).Nodup:=by
   unfold List.Nodup
   rw[yT]
   refine z6 (λ{a b} ha hb hab e=>hab (inj a b ?_ ?_ (all _ ?_) (all _ ?_) e)) (Df)
   all_goals (rw[xD] at ha hb;lia)
  have:=zp nd (l₂:=xE n) (λx hx=>by
   obtain ⟨j,hj,e⟩:=yv.mp hx
   rw[xD] at hj ⊢
   rw[<- e]
   exact hf j (by lia) (all j (by lia)))
  rw[wd,yG,yG] at this
  lia
open PySem PySem.SetTable
structure Tab (t:SetTable)(hs:Array Int):Prop where
 dm:t.dummies = #[]
 rise:nh t.place
 size:t.place.size=hs.size
 le:∀i j:Nat,t.place[i]? = some j->j<=t.mask
 msk:Msk t.mask
 fit:hs.size<=t.mask
 reach:∀(i j:Nat) (h:Int),t.place[i]? = some j->hs[i]? = some h->∃n q,Way (occ t) t.mask n (start t.mask h) q/\q.j=j
theorem fE {α:Type}{xs:Array α}{i:Nat}{a:α}(h:xs[i]? = some a):i<xs.size:=by
 apply zV;intro q;rw[An q] at h;cases h
theorem Tab.fill {t:SetTable}{hs:Array Int}(T:Tab t hs):t.fill=hs.size:=by
 unfold SetTable.fill;rw[T.dm,T.size];rfl
theorem Tab.fits {t:SetTable}{hs:Array Int}(T:Tab t hs):t.fits hs.size=true:=by
 unfold SetTable.fits
 rw[T.fill,T.size]
 simp[T.fit]
theorem Tab.ends {t:SetTable}{hs:Array Int}(T:Tab t hs)(h:Int):∃n q,n<10*turns t.mask/\Way (occ t) t.mask n (start t.mask h) q/\¬ occ t q.j/\q.j<=t.mask/\q.dummy=none:=by
 obtain ⟨j,hj,he⟩:=kf (mask:=t.mask) (n:=hs.size) (occ t) (λj=>below t.place j)
  (λj _ ⟨i,e⟩=>by show below t.place j<hs.size;rw[below_at T.rise e, <- T.size];exact fE e)
  (λi j _ _ ⟨a,ea⟩ ⟨b,eb⟩ e=>by
   have e':below t.place i=below t.place j:=e
   rw[below_at T.rise ea,below_at T.rise eb] at e'
   subst e'
   exact xt (ea.symm.trans eb)) T.fit
 exact rj T.msk (occ t) h hj he
theorem rk {t:SetTable}{hs:Array Int}(T:Tab t hs){H:Nat->Int}{h:Int}:∀(n:Nat) (p q:Probe) (fuel:Nat),Way (occ t) t.mask n p q->¬ occ t q.j->n<fuel->p.dummy=none →
  (SetTable.probe.go t H h fuel p=some (.empty q.j none)/\∀k r i,Way (occ t) t.mask k p r->t.place[i]? = some r.j->H i≠h) ∨
  (∃k r i,k<n/\Way (occ t) t.mask k p r/\t.place[i]? = some r.j/\H i=h/\SetTable.probe.go t H h fuel p=some (.candidate r.j i (adv t.mask r))/\Way (occ t) t.mask (n-k-1) (adv t.mask r) q/\(adv t.mask r).dummy=none
   /\ ∀k' r' i',k'<k->Way (occ t) t.mask k' p r'->t.place[i']? = some r'.j->H i'≠h):=by
 intro n
 induction n with
 | zero =>
  intro p q fuel W he hf hd
  cases W
  obtain ⟨fuel,rfl⟩:∃f,fuel=f+1:=⟨fuel-1,by lia⟩
  refine .inl ⟨?_,λk r i Wr er =>?_⟩
  ·unfold SetTable.probe.go
   rw[ni T.dm he]
   dsimp only
   rw[hd]
  ·cases Wr with
   | here=>exact absurd ⟨i,er⟩ he
   | step a _=>exact absurd a he
 | succ n ih =>
  intro p q fuel W he hf hd
  obtain ⟨fuel,rfl⟩:∃f,fuel=f+1:=⟨fuel-1,by lia⟩
  cases W with
  | step a W =>
   obtain ⟨i,ei⟩:=a
   have hd':(adv t.mask p).dummy=none:=by rw[<- hd];unfold adv;split <;> rfl
   by_cases hh:H i=h
   ·refine .inr ⟨0,p,i,by lia,.here p,ei,hh,?_,W,hd',λk' r' i' hk=>by lia⟩
    unfold SetTable.probe.go
    rw[j7 T.rise ei]
    dsimp only
    rw[if_pos (by rw[hh];exact beq_self_eq_true h)]
    rfl
   ·have e0:SetTable.probe.go t H h (fuel+1) p=SetTable.probe.go t H h fuel (adv t.mask p):=by
     conv=>lhs;unfold SetTable.probe.go
     rw[j7 T.rise ei]
     dsimp only
     rw[if_neg (by rw[beq_iff_eq];exact hh)]
     rfl
    rcases ih (adv t.mask p) q fuel W he (by lia) hd' with ⟨r1,r2⟩ | ⟨k,r,i',k1,w1,e1,h1,g1,w2,d2,no⟩
    ·refine .inl ⟨e0.trans r1,λk r j Wr er =>?_⟩
     cases Wr with
     | here =>
      obtain rfl:i=j:=by
       have x:=below_at T.rise ei
       have y:=below_at T.rise er
       exact x.symm.trans y
      exact hh
     | step _ Wr=>exact r2 _ _ _ Wr er
    ·refine .inr ⟨k+1,r,i',by lia,.step ⟨i,ei⟩ w1,e1,h1,e0.trans g1,by rw[show n+1-(k+1)-1=n-k-1 by lia];exact w2,d2,λk' r' j hk Wr er =>?_⟩
     cases Wr with
     | here =>
      obtain rfl:i=j:=by
       have x:=below_at T.rise ei
       have y:=below_at T.rise er
       exact x.symm.trans y
      exact hh
     | step _ Wr=>exact no _ _ _ (by lia) Wr er
theorem rp {t:SetTable}{hs:Array Int}(T:Tab t hs){H:Nat->Int}{h:Int}{n:Nat}{p q:Probe}(W:Way (occ t) t.mask n p q)(he:¬ occ t q.j)(hn:n<10*turns t.mask)(hd:p.dummy=none) :
  (t.probe H h p=some (.empty q.j none)/\∀k r i,Way (occ t) t.mask k p r->t.place[i]? = some r.j->H i≠h) ∨
  (∃k r i,k<n/\Way (occ t) t.mask k p r/\t.place[i]? = some r.j/\H i=h/\t.probe H h p=some (.candidate r.j i (adv t.mask r))/\Way (occ t) t.mask (n-k-1) (adv t.mask r) q/\(adv t.mask r).dummy=none
   /\ ∀k' r' i',k'<k->Way (occ t) t.mask k' p r'->t.place[i']? = some r'.j->H i'≠h) :=
 rk T n p q _ W he hn hd
theorem Tab.va {t:SetTable}{hs:Array Int}(T:Tab t hs)(j:Nat):t.put j=({ t with place:=insertAt t.place (below t.place j) j },below t.place j):=by
 unfold SetTable.put
 dsimp only
 have:has t.dummies j=false:=by rw[T.dm];simp[has]
 rw[this]
 rfl
theorem Tab.put {t:SetTable}{hs:Array Int}(T:Tab t hs){h:Int}{n:Nat}{q:Probe}(W:Way (occ t) t.mask n (start t.mask h) q)(he:¬ occ t q.j)(hq:q.j<=t.mask)(hf:hs.size+1<=t.mask) :
  Tab { t with place:=insertAt t.place (below t.place q.j) q.j } (insertAt hs (below t.place q.j) h):=by
 have hp:=(fS T.rise q.j).1
 have hp':below t.place q.j<=hs.size:=by rw[<- T.size];exact hp
 have up:∀j,occ t j->occ { t with place:=insertAt t.place (below t.place q.j) q.j } j:=by
  rintro j ⟨i,e⟩
  by_cases l:i<below t.place q.j
  ·exact ⟨i,by show (insertAt _ _ _)[i]? = _;rw[bZ _ hp,if_pos l];exact e⟩
  ·exact ⟨i+1,by show (insertAt _ _ _)[i+1]? = _;rw[bZ _ hp,if_neg (by lia),if_neg (by lia)];exact e⟩
 refine ⟨T.dm,jH T.rise λi e=>he ⟨i,e⟩,?_,λi j e =>?_,T.msk,by rw[cE];exact hf,λi j h' e eh =>?_⟩
 ·show (insertAt _ _ _).size=_
  rw[cE,cE,T.size]
 ·have e':(insertAt t.place (below t.place q.j) q.j)[i]? = some j:=e
  rw[bZ _ hp] at e'
  split at e'
  ·exact T.le _ _ e'
  ·split at e'
   ·cases e';exact hq
   ·exact T.le _ _ e'
 ·have e':(insertAt t.place (below t.place q.j) q.j)[i]? = some j:=e
  rw[bZ _ hp] at e'
  rw[bZ _ hp'] at eh
  by_cases l1:i<below t.place q.j
  ·rw[if_pos l1] at e' eh
   obtain ⟨n',q',w,eq⟩:=T.reach _ _ _ e' eh
   exact ⟨n',q',w.mono up,eq⟩
  ·rw[if_neg l1] at e' eh
   by_cases l2:i=below t.place q.j
   ·rw[if_pos l2] at e' eh
    cases e';cases eh
    exact ⟨n,q,W.mono up,rfl⟩
   ·rw[if_neg l2] at e' eh
    obtain ⟨n',q',w,eq⟩:=T.reach _ _ _ e' eh
    exact ⟨n',q',w.mono up,eq⟩
def ocw (owner:Array (Option Nat))(j:Nat):Prop:=∃k,owner[j]? = some (some k)
theorem Way.trans {oc:Nat->Prop}{mask n m:Nat}{p q r:Probe}(h:Way oc mask n p q)(h2:Way oc mask m q r):∃k,Way oc mask k p r:=by
 induction h with
 | here=>exact ⟨m,h2⟩
 | step a _ ih=>obtain ⟨k,w⟩:=ih h2;exact ⟨k+1,.step a w⟩
theorem kN (oc:Nat->Prop)(mask:Nat):∀(k:Nat) (p:Probe),k<=p.more->(∀k',k'<k->oc (p.j+k'))->Way oc mask k p { p with j:=p.j+k,more:=p.more-k }
 | 0,p,_,_ =>.here p
 | k+1,p,h,ho=>by
  have e:adv mask p={ p with j:=p.j+1,more:=p.more-1 }:=by unfold adv;rw[if_pos (by lia)]
  refine .step (ho 0 (by lia)) ?_
  rw[e]
  have:=kN oc mask k { p with j:=p.j+1,more:=p.more-1 } (by dsimp only;lia) λk' hk=>by
   have:=ho (k'+1) (by lia)
   rw[show p.j+(k'+1)=p.j+1+k' by lia] at this
   exact this
  dsimp only at this
  rw[show p.j+1+k=p.j+(k+1) by lia,show p.more-1-k=p.more-(k+1) by lia] at this
  exact this
theorem fc {owner:Array (Option Nat)}{mask j:Nat}(hs:owner.size=mask+1)(hj:j<=mask):(owner.getD j (some 0)).isNone=true↔¬ ocw owner j:=by
 have hl:j<owner.size:=by lia
 have e:owner[j]? = some owner[j]:=x9 hl
 rw[show owner.getD j (some 0)=owner[j] by simp[Array.getD,hl]]
 unfold ocw
 rw[e]
 cases owner[j] with
 | none=>simp
 | some k=>simp
theorem kg {mask i:Nat}(h:i<=mask):runEnd mask i<=mask/\i<=runEnd mask i:=by
 unfold runEnd;split <;> lia
theorem pU {mask:Nat}{owner:Array (Option Nat)}(hs:owner.size=mask+1):∀(fuel i pe j:Nat),i<=mask->SetTable.layClean.free mask owner fuel i pe=some j →
  ¬ ocw owner j/\∃n q,Way (ocw owner) mask n (cF mask i pe) q/\q.j=j:=by
 intro fuel
 induction fuel with
 | zero=>intro i pe j hi h;unfold SetTable.layClean.free at h;cases h
 | succ fuel ih =>
  intro i pe j hi h
  unfold SetTable.layClean.free at h
  obtain ⟨r1,r2⟩:=kg hi
  have no:∀k,k<runEnd mask i+1-i->((owner.getD (i+k) (some 0)).isNone=false)->ocw owner (i+k):=λk hk e=>by
   by_cases o:ocw owner (i+k)
   ·exact o
   ·rw[(fc hs (by lia)).mpr o] at e;cases e
  cases hf:(xE (runEnd mask i+1-i)).find? λk=>(owner.getD (i+k) (some 0)).isNone with
  | some k =>
   rw[hf] at h
   dsimp only at h
   cases h
   rw[List.find?_range_eq_some] at hf
   obtain ⟨f1,f2,f3⟩:=hf
   rw[xD] at f2
   refine ⟨(fc hs (by lia)).mp f1,k,_,kN (ocw owner) mask k (cF mask i pe) (by show k<=runEnd mask i-i;lia) λk' hk =>?_,rfl⟩
   refine no k' (by lia) ?_
   have:=f3 k' hk
   simpa using this
  | none =>
   rw[hf] at h
   dsimp only at h
   rw[Bl] at hf
   have all:∀k,k<runEnd mask i+1-i->ocw owner (i+k):=λk hk=>no k hk (by simpa using hf k hk)
   obtain ⟨g1,n,q,w,eq⟩:=ih _ _ _ (zQ (AE _ (z5 mask))) h
   refine ⟨g1,?_⟩
   have w0:=kN (ocw owner) mask (runEnd mask i-i) (cF mask i pe) (wq _) λk' hk=>all k' (by lia)
   have w1:Way (ocw owner) mask (n+1) { (cF mask i pe) with j:=(cF mask i pe).j+(runEnd mask i-i),more:=(cF mask i pe).more-(runEnd mask i-i) } q:=by
    refine .step (all (runEnd mask i-i) (by lia)) ?_
    have e:adv mask { (cF mask i pe) with j:=(cF mask i pe).j+(runEnd mask i-i),more:=(cF mask i pe).more-(runEnd mask i-i) }=cF mask (leap mask i pe).1 (leap mask i pe).2:=by
     unfold adv
     rw[if_neg (by show ¬ (runEnd mask i-i-(runEnd mask i-i))>0;lia)]
     rfl
    rw[e]
    exact w
   obtain ⟨k,w2⟩:=w0.trans w1
   exact ⟨k,q,w2,eq⟩
theorem pV {mask:Nat}{owner:Array (Option Nat)}(hs:owner.size=mask+1):∀(fuel i pe k:Nat),i<=mask->k<fuel->¬ ocw owner (cp mask k (i,pe)).1->∃j,SetTable.layClean.free mask owner fuel i pe=some j:=by
 intro fuel
 induction fuel with
 | zero=>intro i pe k _ h;lia
 | succ fuel ih =>
  intro i pe k hi hk he
  unfold SetTable.layClean.free
  obtain ⟨r1,r2⟩:=kg hi
  cases hf:(xE (runEnd mask i+1-i)).find? λk=>(owner.getD (i+k) (some 0)).isNone with
  | some k=>exact ⟨_,rfl⟩
  | none =>
   dsimp only
   rw[Bl] at hf
   cases k with
   | zero =>
    have h0:=hf 0 (by lia)
    have:(owner.getD (i+0) (some 0)).isNone=true:=(fc hs (by lia)).mpr he
    rw[this] at h0
    cases h0
   | succ k=>exact ih _ _ k (zQ (AE _ (z5 mask))) (by lia) he
structure Own (mask:Nat)(owner:Array (Option Nat))(hs:List Int):Prop where
 size:owner.size=mask+1
 cov:∀(k:Nat) (h:Int),hs[k]? = some h->∃j n q,owner[j]? = some (some k)/\Way (ocw owner) mask n (start mask h) q/\q.j=j
 bnd:∀j k:Nat,owner[j]? = some (some k)->k<hs.length
 inj:∀i j k:Nat,owner[i]? = some (some k)->owner[j]? = some (some k)->i=j
theorem Own.step {mask:Nat}(hm:Msk mask){owner:Array (Option Nat)}{hs:List Int}(O:Own mask owner hs)(h:Int)(hl:hs.length<=mask) :
  ∃j,SetTable.layClean.free mask owner (turns mask) (bits h%(mask+1)) (bits h)=some j/\Own mask (owner.setIfInBounds j (some hs.length)) (hs++[h]):=by
 obtain ⟨e,he,hne⟩:=kf (mask:=mask) (n:=hs.length) (ocw owner) (λj=>(owner.getD j none).getD 0)
  (λj _ ⟨k,ek⟩=>by
   have:=fE ek
   show (owner.getD j none).getD 0<_
   rw[show owner.getD j none=some k by rw[yA,ek];rfl]
   exact O.bnd j k ek)
  (λi j _ _ ⟨a,ea⟩ ⟨b,eb⟩ q=>by
   have q':(owner.getD i none).getD 0=(owner.getD j none).getD 0:=q
   rw[show owner.getD i none=some a by rw[yA,ea];rfl,show owner.getD j none=some b by rw[yA,eb];rfl] at q'
   have q'':a=b:=q'
   subst q''
   exact O.inj i j a ea eb) hl
 have i0:bits h%(mask+1)<=mask:=zQ (AE _ (z5 mask))
 obtain ⟨k,k1,k2⟩:=i4 hm (h:=h) he
 obtain ⟨j,hj⟩:=pV O.size (turns mask) _ _ k i0 k1 (by rw[k2];exact hne)
 obtain ⟨hno,n,q,w,eq⟩:=pU O.size _ _ _ _ i0 hj
 have hjm:j<=mask:=by rw[<- eq];exact w.le (lR mask h)
 have hjs:j<owner.size:=by rw[O.size];lia
 have ej:owner[j]? = some none:=by
  rw[x9 hjs]
  cases ho:owner[j] with
  | none=>rfl
  | some k=>exact absurd ⟨k,by rw[x9 hjs,ho]⟩ hno
 have get:∀i:Nat,(owner.setIfInBounds j (some hs.length))[i]? = if i=j then some (some hs.length) else owner[i]? := λi=>by
  rw[Array.getElem?_setIfInBounds]
  by_cases q:j=i
  ·rw[if_pos q,if_pos q.symm,if_pos hjs]
  ·rw[if_neg q,if_neg (zF q)]
 have up:∀i,ocw owner i->ocw (owner.setIfInBounds j (some hs.length)) i:=by
  rintro i ⟨k,ek⟩
  refine ⟨k,?_⟩
  rw[get,if_neg (λq=>by rw[q,ej] at ek;cases ek)]
  exact ek
 refine ⟨j,hj,by rw[Bk];exact O.size,λk h' eh =>?_,λi k ek =>?_,λi i' k ei ei' =>?_⟩
 ·by_cases lk:k<hs.length
  ·rw[y9 lk] at eh
   obtain ⟨j',n',q',a,b,c⟩:=O.cov k h' eh
   refine ⟨j',n',q',?_,b.mono up,c⟩
   rw[get,if_neg (λq=>by rw[q,ej] at a;cases a)]
   exact a
  ·rw[yZ (by lia)] at eh
   have:k-hs.length=0:=by
    cases hk:k-hs.length with
    | zero=>rfl
    | succ m=>rw[hk] at eh;cases eh
   rw[this] at eh
   cases eh
   obtain rfl:k=hs.length:=by lia
   exact ⟨j,n,q,by rw[get,if_pos rfl],w.mono up,eq⟩
 ·rw[wj,xU]
  rw[get] at ek
  split at ek
  ·cases ek;lia
  ·have:=O.bnd _ _ ek;lia
 ·rw[get] at ei ei'
  by_cases q1:i=j
  ·by_cases q2:i'=j
   ·rw[q1,q2]
   ·rw[if_pos q1] at ei;rw[if_neg q2] at ei'
    cases ei
    have:=O.bnd _ _ ei';lia
  ·rw[if_neg q1] at ei
   by_cases q2:i'=j
   ·rw[if_pos q2] at ei'
    cases ei'
    have:=O.bnd _ _ ei;lia
   ·rw[if_neg q2] at ei'
    exact O.inj _ _ _ ei ei'
theorem lU {mask:Nat}(hm:Msk mask):∀(l:List Int) (owner:Array (Option Nat)) (hs:List Int),Own mask owner hs->hs.length+l.length<=mask+1 →
    ∃owner',l.foldl (λacc h=>do
      let (owner,k) ← acc
      let j ← SetTable.layClean.free mask owner (turns mask) (bits h%(mask+1)) (bits h)
      pure (owner.setIfInBounds j (some k),k+1)) (some (owner,hs.length))=some (owner',hs.length+l.length)/\Own mask owner' (hs++l)
  | [],owner,hs,O,_=>⟨owner,rfl,by rw[xM];exact O⟩
  | h :: l,owner,hs,O,hl=>by
    rw[xn] at hl
    obtain ⟨j,hj,O'⟩:=O.step hm h (by lia)
    obtain ⟨owner',e,O''⟩:=lU hm l _ _ O' (by rw[wj,xU];lia)
    refine ⟨owner',?_,by rw[xc] at O'';exact O''⟩
    rw[BN]
    have:(do
      let (owner,k) ← some (owner,hs.length)
      let j ← SetTable.layClean.free mask owner (turns mask) (bits h%(mask+1)) (bits h)
      pure (owner.setIfInBounds j (some k),k+1):Option (Array (Option Nat)×Nat))=some (owner.setIfInBounds j (some hs.length),(hs++[h]).length):=by
      show (SetTable.layClean.free mask owner (turns mask) (bits h%(mask+1)) (bits h)).bind _=_
      rw[hj,wj]
      rfl
    rw[this,e]
    rw[wj,xU,xn]
    congr 2
    lia
theorem lV {mask:Nat}(hm:Msk mask)(hs:Array Int)(hl:hs.size<=mask+1):∃owner,SetTable.layClean mask hs=some owner/\Own mask owner hs.toList:=by
  have O0:Own mask (Array.replicate (mask+1) none) []:=by
    refine ⟨by simp,λk h e=>by simp at e,λj k e =>?_,λi j k e =>?_⟩
    · rw[Bm] at e;split at e <;> cases e
    · rw[Bm] at e;split at e <;> cases e
  obtain ⟨owner,e,O⟩:=lU hm hs.toList _ [] O0 (by rw[zH,wy];lia)
  refine ⟨owner,?_,by rw[Ad] at O;exact O⟩
  unfold SetTable.layClean
  rw[<- Array.foldl_toList]
  have e':hs.toList.foldl (λacc h=>do
      let (owner,k) ← acc
      let j ← SetTable.layClean.free mask owner (turns mask) (bits h%(mask+1)) (bits h)
      pure (owner.setIfInBounds j (some k),k+1)) (some (Array.replicate (mask+1) none,0))=some (owner,0+hs.toList.length):=e
  rw[e']
  rfl
theorem filterMap_get {α β:Type}{f:α -> Option β}:∀(l:List α),(∀x∈l,(f x).isSome=true)->∀i:Nat,(l.filterMap f)[i]? = l[i]?.bind f
 | [],_,i=>by simp
 | x :: l,h,i=>by
  obtain ⟨y,hy⟩:=Bj.mp (h x wY)
  rw[List.filterMap_cons_some hy]
  cases i with
  | zero=>simp[hy]
  | succ i =>
   rw[zu,zu]
   exact filterMap_get l (λz hz=>h z (xf _ hz)) i
theorem tE {mask:Nat}(hm:Msk mask)(finger moves:Nat)(led plain:Bool)(es:Array (Int×wm))(hl:es.size<=mask) :
  ∃t order,SetTable.laid mask finger moves led plain (es.map (·.1))=some (t,order)/\order.toList.Perm (xE es.size)/\Tab t ((order.filterMap (es[·]?)).map (·.1))/\(order.filterMap (es[·]?)).toList.Perm es.toList/\t.led=led/\t.plain=plain/\t.mask=mask:=by
 obtain ⟨owner,e,O⟩:=lV hm (es.map (·.1)) (by rw[xT];lia)
 refine ⟨_,_,by unfold SetTable.laid;rw[e];rfl,?_⟩
 generalize hlive:((xE (mask+1)).filterMap λj=>(owner.getD j none).map (j, ·))=live
 have mem:∀j k,(j,k)∈live↔owner[j]? = some (some k):=λj k=>by
  rw[<- hlive,AW]
  constructor
  ·rintro ⟨a,ha,ea⟩
   rw[yA] at ea
   cases ho:owner[a]? with
   | none=>rw[ho] at ea;cases ea
   | some x =>
    rw[ho] at ea
    cases x with
    | none=>cases ea
    | some k'=>cases ea;exact ho
  ·intro ho
   refine ⟨j,?_,?_⟩
   ·rw[xD, <- O.size];exact fE ho
   ·rw[yA,ho];rfl
 have pw:live.Pairwise (λa b=>a.1<b.1):=by
  rw[<- hlive,List.pairwise_filterMap]
  refine DP (λ{a b} hab x hx y hy =>?_) List.pairwise_lt_range
  have hx':x.1=a:=by cases ho:owner.getD a none with
   | none=>rw[ho] at hx;cases hx
   | some k=>rw[ho] at hx;cases hx;rfl
  have hy':y.1=b:=by cases ho:owner.getD b none with
   | none=>rw[ho] at hy;cases hy
   | some k=>rw[ho] at hy;cases hy;rfl
  rw[hx',hy'];exact hab
 have nd:(live.map (·.2)).Nodup:=by
  unfold List.Nodup
  rw[yT]
  refine z6 (λ{a b} ha hb hab q =>?_) pw
  have:=O.inj a.1 b.1 a.2 ((mem _ _).mp ha) (by rw[q];exact (mem _ _).mp hb)
  lia
 have hlen:(es.map (·.1)).toList.length=es.size:=by rw[wy,xT]
 have perm:(live.map (·.2)).Perm (xE es.size):=by
  rw[AU nd Df]
  intro k
  rw[xD,yv]
  constructor
  ·rintro ⟨⟨j,k'⟩,hm',rfl⟩
   have:=O.bnd _ _ ((mem _ _).mp hm')
   rw[hlen] at this
   exact this
  ·intro hk
   obtain ⟨j,_,_,ej,_⟩:=O.cov k _ (wz (by rw[hlen];exact hk))
   exact ⟨(j,k),(mem _ _).mpr ej,rfl⟩
 have all:∀x∈live.map (·.2),(es[x]?).isSome=true:=λx hx=>by
  have:=(perm.mem_iff).mp hx
  rw[xD] at this
  rw[x9 this];rfl
 have tl:(live.map (·.2)).toArray.toList=live.map (·.2):=rfl
 have ll:live.length=es.size:=by have:=perm.length_eq;rw[wd,yG] at this;exact this
 have fm:((live.map (·.2)).toArray.filterMap (es[·]?)).toList=(live.map (·.2)).filterMap (es[·]?):=by simp
 have fl:((live.map (·.2)).filterMap (es[·]?)).Perm es.toList:=by
  have p1:=perm.filterMap (es[·]?)
  have:(xE es.size).filterMap (es[·]?)=es.toList:=by
   apply CY
   intro i
   rw[filterMap_get _ (λx hx=>by rw[xD] at hx;rw[x9 hx];rfl)]
   by_cases hi:i<es.size
   ·rw[List.getElem?_range hi,wI];rfl
   ·rw[BV (by rw[yG];lia),BV (by rw[wy];lia)];rfl
  rw[this] at p1
  exact p1
 refine ⟨perm,?_,by rw[fm];exact fl,rfl,rfl,rfl⟩
 have sz:(((live.map (·.2)).toArray.filterMap (es[·]?)).map (·.1)).size=es.size:=by
  rw[xT, <- wy,fm,fl.length_eq,wy]
 have occ_of:∀j,ocw owner j->occ { mask:=mask,place:=(live.map (·.1)).toArray,dummies := #[],finger:=finger,led:=led,moves:=moves,plain:=plain } j:=by
  rintro j ⟨k,ek⟩
  obtain ⟨i,hi,ei⟩:=AL ((mem j k).mpr ek)
  refine ⟨i,?_⟩
  show (live.map (·.1)).toArray[i]? = some j
  rw[xC,xh,wz hi,ei]
  rfl
 refine ⟨rfl,λi j a b ea eb hij =>?_,?_,λi j ej =>?_,hm,by rw[sz];exact hl,λi j h ej eh =>?_⟩
 ·have ea':(live.map (·.1)).toArray[i]? = some a:=ea
  have eb':(live.map (·.1)).toArray[j]? = some b:=eb
  rw[xC] at ea' eb'
  have pw':(live.map (·.1)).Pairwise (· < ·):=by rw[yT];exact pw
  obtain ⟨hi,xi⟩:=wF.mp ea'
  obtain ⟨hj,xj⟩:=wF.mp eb'
  rw[<- xi, <- xj]
  exact zT.mp pw' i j hi hj hij
 ·show (live.map (·.1)).toArray.size=_
  rw[sz,wk,wd,ll]
 ·have ej':(live.map (·.1)).toArray[i]? = some j:=ej
  rw[xC,xh] at ej'
  cases hx:live[i]? with
  | none=>rw[hx] at ej';cases ej'
  | some x =>
   rw[hx] at ej'
   cases ej'
   have:=fE ((mem x.1 x.2).mp (wR hx))
   show x.1<=mask
   rw[O.size] at this
   lia
 ·have ej':(live.map (·.1)).toArray[i]? = some j:=ej
  rw[xC,xh] at ej'
  cases hx:live[i]? with
  | none=>rw[hx] at ej';cases ej'
  | some x =>
   rw[hx] at ej'
   cases ej'
   have ho:=(mem x.1 x.2).mp (wR hx)
   have hk:=O.bnd _ _ ho
   rw[Array.getElem?_map, <- wI,fm,filterMap_get _ all,xh,hx] at eh
   have eh':(es[x.2]?).map (·.1)=some h:=eh
   obtain ⟨j',n,q,a,b,c⟩:=O.cov x.2 h (by rw[Ax,xh,wI];exact eh')
   obtain rfl:=O.inj _ _ _ ho a
   exact ⟨n,q,b.mono occ_of,c⟩
open PySem PySem.SetTable PyProof.Rows
section
variable  {prog:wL}{w:xg}{A:xF}{E:wm->wu->Prop}{s:wu}
def a7 (es:Array (Int×wm))(ep:Nat)(t:SetTable):Obj:={ cls :=.type "set",dict:=none,data :=.set es ep t }
theorem lW {a:Addr}{es:Array (Int×wm)}{ep:Nat}{t:SetTable}{Q:(Array (Int×wm)×Nat×SetTable)->wu->Prop}(ho:s.heap.get? a=some (a7 es ep t))(T:Tab t (es.map (·.1)))(h:Q (es,ep,t) s) :
  wX (xk prog w) A (setState a) Q E s:=wpAny_setState_of ho rfl (by have:=T.fits;rwa [xT] at this) h
end
open PySem PySem.SetTable PyProof.Rows
section
variable  {prog:wL}{w:xg}{A:xF}{E:wm->wu->Prop}{s:wu}
def eG (w:xg)(h:Heap)(a:Addr)(es:Array (Int×wm)):Prop :=
 ∃ep t,h.get? a=some (a7 es ep t)/\Tab t (es.map (·.1))/\es.size*5<t.mask*3/\t.led = !w.params.followText "set-order" /\ t.plain=true
theorem eG.at {h h':Heap}{a:Addr}{es:Array (Int×wm)}(x:eG w h a es)(e:∀o,h.get? a=some o->h'.get? a=some o):eG w h' a es :=
 let ⟨ep,t,ho,r⟩:=x;⟨ep,t,e _ ho,r⟩
theorem rq {m n:Nat}(hm:Msk m)(h1:n*5<m*3)(h2:(n+1)*5≥m*3)(h3:n<300):Msk (sizeAbove (grown (n+1))-1)/\n+1<=sizeAbove (grown (n+1))-1/\(n+1)*5<(sizeAbove (grown (n+1))-1)*3/\sizeAbove (grown (n+1))<=512:=by
 have c:n=4\/n=18\/n=76:=by
  rcases hm with rfl | rfl | rfl | rfl <;> lia
 unfold Msk
 rcases c with rfl | rfl | rfl <;> decide
theorem pW:512<=wo:=by rw[Dm];lia
theorem lX {a:Addr}{es es':Array (Int×wm)}{ep:Nat}{t t':SetTable}{Q:Unit->wu->Prop}(ho:s.heap.get? a=some (a7 es ep t))(hz:es'.size<=512)
  (h:∀h',Heap.SameBut a s.heap h'->h'.get? a=some (a7 es' (ep+1) t')->Q () { s with heap:=h' }):wX (xk prog w) A (storeSet a es' t') Q E s:=by
 refine wpAny_storeSet_of (o:=a7 es ep t) ho rfl ?_ (xx hz pW)
 refine h _ (AI s.heap a _) ?_
 have:=y8 (Obj.putSet es' t') ho (by rw[putSet_of es' t' (o:=a7 es ep t) rfl];rfl)
 rw[putSet_of es' t' (o:=a7 es ep t) rfl] at this
 exact this
theorem Tab.tooFull {t:SetTable}{hs:Array Int}(T:Tab t hs):t.tooFull=decide (hs.size*5≥t.mask*3):=by
 unfold SetTable.tooFull;rw[T.fill]
theorem pX {t:SetTable}{es:Array (Int×wm)}(T:Tab t (es.map (·.1))){n:Nat}(hn:es.size=n+1)(h1:n*5<t.mask*3)(h2:(n+1)*5≥t.mask*3)(h3:n<300) :
  ∃t' order,t.relaid (es.map (·.1)) (grown (n+1))=some (t',order)/\order.toList.Perm (xE es.size)/\Tab t' ((order.filterMap (es[·]?)).map (·.1))/\(order.filterMap (es[·]?)).toList.Perm es.toList/\t'.led=t.led/\t'.plain=t.plain/\(n+1)*5<t'.mask*3:=by
 obtain ⟨k1,k2,k3,k4⟩:=rq T.msk h1 h2 h3
 obtain ⟨t',order,e,pm,T',pe,l,p,m⟩:=tE k1 t.finger (t.movedTo (sizeAbove (grown (n+1))-1)) t.led t.plain es (by lia)
 exact ⟨t',order,e,pm,T',pe,l,p,by rw[m];exact k3⟩
end
open PySem PySem.SetTable PyProof.Rows
section
variable  {prog:wL}{w:xg}{A:xF}{E:wm->wu->Prop}{s:wu}
def ElI (e:Int×wm)(k:Int):Prop:=∃t,e=(hashInt k,xZ k t)
theorem pY {es:Array (Int×wm)}(els:∀e∈es,∃k,ElI e k):ElemsOf (intKind prog w) es.toList:=by
 intro e he
 obtain ⟨k,t,rfl⟩:=els e (xq.mp he)
 exact ⟨⟨k,B9 _ _ _ _,rfl⟩,rfl⟩
theorem pZ {t:SetTable}{es:Array (Int×wm)}(T:Tab t (es.map (·.1)))(h:Int)(x:wm){n:Nat}{q:Probe}(hn:n<10*turns t.mask)(W:Way (occ t) t.mask n (start t.mask h) q)(he:¬ occ t q.j)(hq:q.j<=t.mask)(hz:es.size+1<=t.mask) :
  layNew t es h x=(insertAt es (below t.place q.j) (h,x),{ t with place:=insertAt t.place (below t.place q.j) q.j },false,false):=by
 have hf:t.freeSlot h=some (q.j,false):=by
  unfold SetTable.freeSlot
  rcases rp T (H:=λ_=>h+1) (h:=h) W he hn rfl with ⟨g,_⟩ | ⟨_,_,i,_,_,_,h1,_⟩
  ·rw[show t.probe (λ_=>h+1) h (t.probeStart h)=some (.empty q.j none) from g]
   rfl
  ·have:h+1=h:=h1
   lia
 have T':=T.put W he hq (by rw[xT];exact hz)
 rw[<- gv es (below t.place q.j) (h,x) (·.1)] at T'
 have ft:=T'.fits
 rw[xT] at ft
 unfold layNew
 rw[hf]
 dsimp only
 rw[T.va]
 dsimp only
 unfold SetTable.orStandIn
 rw[if_pos ft,ft]
 rfl
theorem lZ {t:SetTable}{es:Array (Int×wm)}{n:Nat}{t':SetTable}{order:Array Nat}(e:t.relaid (es.map (·.1)) n=some (t',order))(pm:order.toList.Perm (xE es.size))(T':Tab t' ((order.filterMap (es[·]?)).map (·.1))) :
  relayAll t es n=(order.filterMap (es[·]?),t',false):=by
 unfold relayAll
 rw[e]
 dsimp only
 have c:coversAll order es.size=true:=by unfold coversAll;rw[List.isPerm_iff];exact pm
 have f:=T'.fits
 rw[xT] at f
 rw[c,f]
 rfl
theorem add_int {a:Addr}{es:Array (Int×wm)}{k:Int}{tok:Tok}{Q:Bool->wu->Prop}(I:eG w s.heap a es)(els:∀e∈es,∃k',ElI e k')(hz:es.size<300)
  (hin:(∃e∈es,ElI e k)->Q false s)
  (hnew:(¬ ∃e∈es,ElI e k)->∀h' es',Heap.SameBut a s.heap h'->eG w h' a es'->es'.toList.Perm ((hashInt k,.int k tok) :: es.toList)->Q true { s with heap:=h' }) :
  wX (xk prog w) A (setAddHashed a (.int k tok) (hashInt k)) Q E s:=by
 obtain ⟨ep,t,ho,T,rm,hl,hp⟩:=I
 have hel:=pY (prog:=prog) (w:=w) els
 have hb:es.size<scanBound:=by unfold scanBound;lia
 have hf:t.fits es.size=true:=by have:=T.fits;rwa [xT] at this
 unfold setAddHashed setAddHashedIn
 refine yi (wg (lW ho T ?_))
 dsimp only
 rw[byScan_of (knd:=intKind prog w) rfl hb hel]
 simp only[↓reduceIte]
 unfold setAddByScan
 refine wg ?_
 refine wg (zS ?_)
 refine wg (wpAny_setScan_of (knd:=intKind prog w) (k:=k) (B9 _ _ _ _) ho rfl hf hel ?_)
 cases hr:List.findIdx? (λe=>(intKind prog w).is k e.2) es.toList with
 | some j =>
  dsimp only
  obtain ⟨hj,hpj,_⟩:=List.findIdx?_eq_some_iff_getElem.mp hr
  refine wA (wA (hin ⟨es.toList[j],xq.mp (yD hj),?_⟩))
  obtain ⟨k',t',e'⟩:=els es.toList[j] (xq.mp (yD hj))
  obtain ⟨u,e2⟩:=CO hpj
  rw[e'] at e2
  cases e2
  exact ⟨_,e'⟩
 | none =>
  dsimp only
  have nx:¬ ∃e∈es,ElI e k:=by
   rintro ⟨e,he,t',rfl⟩
   have:=List.findIdx?_eq_none_iff.mp hr _ (xq.mpr he)
   rw[B9] at this
   cases this
  have hgw:∀(b:Bool) {s₁:wu} {Q':Unit->wu->Prop},Q' () s₁->wX (xk prog w) A (match b with | true=>rule "set.scan.the-table-gave-way" | false=>pure ()) Q' E s₁ :=
   λb s₁ Q' hq=>by cases b <;> first | exact wA hq | exact zS hq
  obtain ⟨n,q,hn,W,he,hq,hd⟩:=T.ends (hashInt k)
  have hz':es.size+1<=t.mask:=by
   rcases T.msk with e | e | e | e <;> rw[e] at rm ⊢ <;> lia
  rw[pZ T (hashInt k) (.int k tok) hn W he hq hz']
  dsimp only
  refine wg (wA (a:=()) ?_)
  have T':=T.put W he hq (by rw[xT];exact hz')
  rw[<- gv es (below t.place q.j) (hashInt k,xZ k tok) (·.1),hp] at T'
  rw[hp]
  simp only[↓reduceIte]
  refine wg ?_
  rw[show hashByValue 8 (.int k tok)=pure true from rfl]
  refine wA ?_
  simp only[↓reduceIte]
  have sz:(insertAt es (below t.place q.j) (hashInt k,xZ k tok)).size=es.size+1:=cE _ _ _
  refine wg (lX ho (by rw[sz];lia) λh1 sb1 ho1 =>?_)
  have pm1:=insertAt_perm es (below t.place q.j) (hashInt k,xZ k tok)
  rw[T'.tooFull,xT,sz]
  by_cases full:(es.size+1)*5≥t.mask*3
  ·rw[if_pos (by simpa using full)]
   obtain ⟨t2,order,e2,pm2,T2,pe2,l2,p2,rm2⟩:=pX T' sz (n:=es.size) (by simpa using rm) full hz
   rw[lZ e2 pm2 T2]
   dsimp only
   have z2:(order.filterMap ((insertAt es (below t.place q.j) (hashInt k,xZ k tok))[·]?)).size=es.size+1:=by
    rw[<- wy,pe2.length_eq,wy,sz]
   refine wg (wA (a:=()) ?_)
   refine wg (lX (s:={ s with heap:=h1 }) ho1 (by rw[z2];lia) λh2 sb2 ho2 =>?_)
   refine wA (wA (hnew nx h2 _ (sb1.trans sb2) ⟨_,_,ho2,T2,by rw[z2];exact rm2,by rw[l2];exact hl,by rw[p2]⟩ (pe2.trans pm1)))
  ·rw[if_neg (by simpa using full)]
   refine wA (wA (hnew nx h1 _ sb1 ⟨_,_,ho1,T',?_,hl,rfl⟩ pm1))
   rw[sz]
   exact zV full
end
open PySem PySem.SetTable PyProof.Rows PySem.Spec
def TS (h h':Heap):Prop:=∀b o,o.cls = .type "tuple" -> h.get? b=some o->h'.get? b=some o
structure Kd (prog:wL)(w:xg)(κ:Type) where
 El:Heap->wm -> κ -> Prop
 hash:κ -> Int
 room:xF->Prop
 keeps:∀{h h':Heap} {v:wm} {k:κ},El h v k->TS h h'->El h' v k
 inj:∀{h:Heap} {v:wm} {k k':κ},El h v k->El h v k'->k=k'
 add:∀{A:xF} {E:wm->wu->Prop} {s:wu} {a:Addr} {es:Array (Int×wm)} {v:wm} {k:κ} {Q:Bool->wu->Prop},room A->eG w s.heap a es->(∀e∈es,∃k',e.1=hash k'/\El s.heap e.2 k')->El s.heap v k->es.size<300 →
  ((∃e∈es,El s.heap e.2 k)->∀tk,s.toks<=tk->Q false { s with toks:=tk }) →
  ((¬ ∃e∈es,El s.heap e.2 k)->∀h' es' tk,s.toks<=tk->Heap.SameBut a s.heap h'->eG w h' a es'->es'.toList.Perm ((hash k,v) :: es.toList)->Q true { s with heap:=h',toks:=tk }) →
  wX (xk prog w) A (setAdd a v) Q E s
def oB (prog:wL)(w:xg):Kd prog w Int where
 El:=λ_ v k=>∃t,v = .int k t
 hash:=hashInt
 room:=λ_=>True
 keeps:=λx _=>x
 inj:=λ⟨t,e⟩ ⟨t',e'⟩=>by rw[e] at e';injection e'
 add:=by
  intro A E s a es v k Q _ I els hv hz hin hnew
  obtain ⟨t,rfl⟩:=hv
  unfold setAdd
  refine yi (wg ((intKind prog w).pyHash (k:=k) (B9 _ _ _ _) ?_))
  have els':∀e∈es,∃k',ElI e k':=λe he=>by
   obtain ⟨k',e1,t',e2⟩:=els e he
   exact ⟨k',t',DF e1 e2⟩
  have conv:∀e∈es,(ElI e k↔∃t,e.2=xZ k t):=λe he=>by
   constructor
   ·rintro ⟨t',rfl⟩;exact ⟨t',rfl⟩
   ·rintro ⟨t',e2⟩
    obtain ⟨k',e1,t2,e3⟩:=els e he
    rw[e2] at e3;injection e3 with e3 e4;subst e3
    exact ⟨t',DF e1 e2⟩
  refine add_int (s:={ s with toks:=s.toks+1 }) I els' hz (λx=>hin ?_ _ (Bq _)) λx h' es' sb I' pm=>hnew ?_ h' es' _ (Bq _) sb I' pm
  ·obtain ⟨e,he,x⟩:=x;exact ⟨e,he,(conv e he).mp x⟩
  ·rintro ⟨e,he,y⟩;exact x ⟨e,he,(conv e he).mpr y⟩
section
variable  {prog:wL}{w:xg}{κ:Type}(kd:Kd prog w κ)
structure Good (h:Heap)(es:Array (Int×wm))(l:List κ):Prop where
 el:∀e∈es,∃k,k∈l/\e.1=kd.hash k/\kd.El h e.2 k
 all:∀k∈l,∃e∈es,kd.El h e.2 k
 dis:es.toList.Pairwise (λe e'=>∀k,kd.El h e.2 k->¬ kd.El h e'.2 k)
 len:es.size<=l.length
variable  {kd}
theorem Good.keeps {h h':Heap}{es:Array (Int×wm)}{l:List κ}(G:Good kd h es l)(t:TS h h'):Good kd h' es l:=by
 refine ⟨λe he =>?_,λk hk =>?_,?_,G.len⟩
 ·obtain ⟨k,a,b,c⟩:=G.el e he;exact ⟨k,a,b,kd.keeps c t⟩
 ·obtain ⟨e,a,b⟩:=G.all k hk;exact ⟨e,a,kd.keeps b t⟩
 ·refine z6 (λ{e e'} he he' x k y z =>?_) G.dis
  obtain ⟨k1,_,_,c1⟩:=G.el e (xq.mp he)
  obtain ⟨k2,_,_,c2⟩:=G.el e' (xq.mp he')
  obtain rfl:=kd.inj y (kd.keeps c1 t)
  obtain rfl:=kd.inj z (kd.keeps c2 t)
  exact x _ c1 c2
theorem Good.nil (h:Heap):Good kd h #[] []:=⟨λe he=>(by simp at he),λk hk=>(by cases hk),(by simp),wq _⟩
theorem Good.same {h:Heap}{es:Array (Int×wm)}{l:List κ}(G:Good kd h es l){k:κ}(x:∃e∈es,kd.El h e.2 k):Good kd h es (l++[k]):=by
 refine ⟨λe he =>?_,λk' hk =>?_,G.dis,by rw[wj];have:=G.len;lia⟩
 ·obtain ⟨k,a,b⟩:=G.el e he;exact ⟨k,yb _ a,b⟩
 ·rcases wC.mp hk with hk | hk
  ·exact G.all k' hk
  ·rw[wx] at hk;subst hk;exact x
theorem Good.more {h:Heap}{es es':Array (Int×wm)}{l:List κ}(G:Good kd h es l){k:κ}{v:wm}(hv:kd.El h v k)(x:¬ ∃e∈es,kd.El h e.2 k)(pm:es'.toList.Perm ((kd.hash k,v) :: es.toList)):Good kd h es' (l++[k]):=by
 have mem:∀e,e∈es'↔e=(kd.hash k,v)\/e∈es:=λe=>by
  rw[<- xq,pm.mem_iff,wZ,xq]
 refine ⟨λe he =>?_,λk' hk =>?_,?_,?_⟩
 ·rcases (mem e).mp he with rfl | he
  ·exact ⟨k,xb _ (wx.mpr rfl),rfl,hv⟩
  ·obtain ⟨k,a,b⟩:=G.el e he;exact ⟨k,yb _ a,b⟩
 ·rcases wC.mp hk with hk | hk
  ·obtain ⟨e,a,b⟩:=G.all k' hk;exact ⟨e,(mem e).mpr (.inr a),b⟩
  ·rw[wx] at hk;subst hk;exact ⟨_,(mem _).mpr (.inl rfl),hv⟩
 ·rw[pm.pairwise_iff (λ{a b} z k y1 y2=>z k y2 y1)]
  refine List.Pairwise.cons (λe he k' y1 y2 =>?_) G.dis
  obtain rfl:=kd.inj y1 hv
  exact x ⟨e,xq.mp he,y2⟩
 ·have:=pm.length_eq
  rw[xn,wy,wy] at this
  rw[wj,xU]
  have:=G.len
  lia
end
section
variable  {prog:wL}{w:xg}{A:xF}{R:Result->wu->Prop}{I:Addr}{fp:List Addr}{G:Array GenState->Array GenState->Prop}{n:Nat}{P:Nat->wm->Prop}{St:Nat->wu->Prop}{κ:Type}{kd:Kd prog w κ}
theorem l7 (W:WalksS prog w A.in1 I fp [I] G n P St)(hrm:kd.room A.in1)(hI:∀i s,St i s->∃o,s.heap.get? I=some o/\o.cls ≠ .type "tuple")(S:Addr)(hSf:S∉fp)(hIf:I∈fp)(ks:List κ)(hn:n=ks.length)(hb:n<300) :
  ∀(k i:Nat) (s:wu) (es:Array (Int×wm)),n-i=k->i<=n->St i s->(∀j v,P j v->∃q,ks[j]? = some q/\kd.El s.heap v q) →
   eG w s.heap S es->Good kd s.heap es (ks.take i) →
   (∀s' es',Moved [S,I] G s s'->eG w s'.heap S es'->Good kd s'.heap es' ks->R (.ok (.ret .none)) s') →
   BB (xk prog w) A (.builtin "set.update.loop" ⟨[.ref S,.ref I],[]⟩) R s:=by
 have hSI:S≠I:=λe=>hSf (e ▸ hIf)
 have ts:∀i s s',St i s->Moved [I] G s s'->TS s.heap s'.heap:=λi s s' hst hm b o hc e=>by
  refine hm.heap b o (λhb =>?_) e
  rw[wx] at hb
  obtain ⟨o',e',c'⟩:=hI i s hst
  rw[hb,e'] at e;cases e;exact c' hc
 intro k
 induction k with
 | zero =>
  intro i s es hk hi hst hv hS hG hR
  have hin:i=n:=by omega
  subst hin
  refine yg Bt ?_
  rw[yj zv _]
  show wX _ A.in1 (pyNext (.ref I) >>= _) _ _ s
  refine wg (W.done s _ _ hst λs' hm =>?_)
  show wX _ A.in1 (ret yW) _ _ s'
  rw[yd (by omega)] at hG
  exact wA (hR s' es (hm.mono λb hb=>by rw[wx] at hb;simp[hb]) (hS.at λo e=>hm.heap S o (by rw[wx];exact hSI) e) (hG.keeps (ts _ _ _ hst hm)))
 | succ k ih =>
  intro i s es hk hi hst hv hS hG hR
  have hlt:i<n:=by omega
  refine yg Bt ?_
  rw[yj zv _]
  show wX _ A.in1 (pyNext (.ref I) >>= _) _ _ s
  refine wg (W.item i s _ _ hlt hst λv s' hP hst' hm =>?_)
  have t0:=ts _ _ _ hst hm
  obtain ⟨q,eq,hq⟩:=hv i v hP
  have hS':eG w s'.heap S es:=hS.at λo e=>hm.heap S o (by rw[wx];exact hSI) e
  have hG':=hG.keeps t0
  have tk:ks.take (i+1)=ks.take i++[q]:=by rw[List.take_succ,eq];rfl
  show wX _ A.in1 (C3 [v] (setAdd S v) >>= _) _ _ s'
  have hm2:Moved [S,I] G s s':=hm.mono λb hb=>by rw[wx] at hb;simp[hb]
  refine wg (yi (kd.add hrm hS' (λe he =>?_) (kd.keeps hq t0) ?_ (λx tk' htk =>?_) λx h' es' tk' htk sb I' pm =>?_))
  ·obtain ⟨k',_,a,b⟩:=hG'.el e he;exact ⟨k',a,b⟩
  ·have:=hG'.len;rw[xX] at this;omega
  ·refine wA ⟨zx zv _,ih (i+1) _ es (by omega) hlt (W.frame _ s' _ _ hst' htk λb _ o e=>e) (λj v' p =>?_) hS' (by rw[tk];exact hG'.same x) λs'' es'' hm'' a b =>?_⟩
   ·obtain ⟨q',a,b⟩:=hv j v' p;exact ⟨q',a,kd.keeps b t0⟩
   ·exact hR s'' es'' (DN W.gtrans (hm2.then_heap htk λb o _ e=>e) hm'') a b
  ·have t1:TS s'.heap h':=λb o hc e=>by
    rw[sb.2 b (λhb=>by
     obtain ⟨ep,t,ho,_⟩:=hS'
     rw[hb,ho] at e;cases e;simp[a7] at hc)]
    exact e
   refine wA ⟨zx zv _,ih (i+1) _ es' (by omega) hlt (W.frame _ s' _ _ hst' htk λb hb o e =>?_) (λj v' p =>?_) I' (by rw[tk];exact (hG'.more (kd.keeps hq t0) x pm).keeps t1) λs'' es'' hm'' a b =>?_⟩
   ·rw[sb.2 b (λh:b=S=>hSf (h ▸ hb))];exact e
   ·obtain ⟨q',a,b⟩:=hv j v' p;exact ⟨q',a,kd.keeps (kd.keeps b t0) t1⟩
   ·refine hR s'' es'' (DN W.gtrans (hm2.then_heap htk λb o hb e =>?_) hm'') a b
    rw[sb.2 b (λh:b=S=>hb (by rw[h];exact wY))];exact e
end
section
variable  {prog:wL}{w:xg}{A:xF}{E:wm->wu->Prop}{s:wu}
theorem oD (a:wm){Q₁:wm->wu->Prop}
    (h:Q₁ (.ref s.heap.objs.size) { s with heap:=s.heap.push (a7 #[] 0 (.fresh 0 0 (!w.params.followText "set-order"))) }) :
    BB (xk prog w) A (.call (.builtin "set.__new__") ⟨[.type "set",a],[]⟩) (wants Q₁ E) s:=by
  refine B5 ?_
  show wX _ A.in1 (do checkBuiltinCall "set.__new__" ⟨[.type "set",a],[]⟩;again (.builtin "set.__new__" ⟨[.type "set",a],[]⟩)) _ _ s
  refine wg (Dp (PySem.F.newCall_set_1 a) (wA ⟨zx Dl _,yg F.entry_set_new ?_⟩))
  rw[yj Dl _]
  unfold Builtin.«set.__new__» Builtin.Frozenset.newClass
  have hsub:=sub_set_self
  obtain ⟨hp,g,d,tk,os⟩:=s
  dsimp only
  wp_walk
  refine wpAny_askSetting (wA ?_)
  dsimp only
  simp only[newObj]
  refine wg (wpAny_alloc (wA ?_))
  exact wA h
theorem p5 (led:Bool):Tab (.fresh 0 0 led) #[]:=by
 refine ⟨rfl,λi j a b e =>?_,rfl,λi j e =>?_,.inl rfl,xH _,λi j h e =>?_⟩ <;> (simp[SetTable.fresh] at e)
theorem i8 {h:Heap}{a:Addr}(ho:h.get? a=some (a7 #[] 0 (.fresh 0 0 (!w.params.followText "set-order")))):eG w h a #[] :=
 ⟨0,_,ho,(by rw[Array.map_empty];exact p5 _),(by show 0*5<7*3;decide),rfl,rfl⟩
theorem sub_tuple_set:isSubtype (.type "tuple") (.type "set")=pure false:=by rw[Bh];kernel_rfl
theorem sub_tuple_frozenset:isSubtype (.type "tuple") (.type "frozenset")=pure false:=by rw[Bh];kernel_rfl
end
open PySem PySem.SetTable PyProof.Rows PySem.Spec
section
variable  {prog:wL}{w:xg}{A:xF}{E:wm->wu->Prop}{s:wu}
set_option maxHeartbeats 3200000 in
theorem i9 {κ:Type}{kd:Kd prog w κ}{l:Addr}{items:Array wm}{ks:List κ}{Q:wm->wu->Prop}
  (hh:A.handled=none) (hrm:kd.room A.in1.in1.in1) (hl:s.heap.IsTuple l items) (hz:items.size=ks.length) (hi:∀(i:Nat) v,items[i]? = some v->∃q,ks[i]? = some q/\kd.El s.heap v q) (hb:items.size<300)
  (h:∀(h':Heap) (es:Array (Int×wm)) (tk:Nat),s.toks<=tk->eG w h' s.heap.objs.size es->Good kd h' es ks →
   (∀b o,s.heap.get? b=some o->h'.get? b=some o)->Q (.ref s.heap.objs.size) { s with heap:=h',toks:=tk }) :
  wX (xk prog w) A (call (.type "set") [.ref l]) Q E s:=by
 obtain ⟨c,tl,hmro⟩:=yf.mro
 have hmade:=yf.made
 have hsub:=yf.sub
 refine DC (B5 ?_)
 show wX _ _ (callAny (.type "set") _) _ _ _
 refine wA ⟨AZ _ (by decide +kernel),yg CZ ?_⟩
 rw[CG (B6 "set" [.ref l] []) rfl]
 have h1:=yf.notType
 have h2:=yf.canCreate
 have hct:=BI (.ref l)
 repeat (any_goals (first | assumption | wp_step))
 have gd:(s.heap.push (a7 #[] 0 (.fresh 0 0 (!w.params.followText "set-order")))).objs.size=s.heap.objs.size+1:=yR _ _
 refine z8 (oD (w:=w) (.ref l) (E:=E) (Q₁:=λobj s₁=>obj = .ref s.heap.objs.size/\s₁={ s with heap:=s.heap.push (a7 #[] 0 (.fresh 0 0 (!w.params.followText "set-order"))) }) ⟨rfl,rfl⟩) λr s₁ hr =>?_
 cases r with
 | error e=>exact hr
 | ok fl =>
  cases fl with
  | ret obj =>
   obtain ⟨rfl,rfl⟩:=hr
   generalize hled:(!w.params.followText "set-order")=led at gd ⊢
   have hS:(s.heap.push (a7 #[] 0 (.fresh 0 0 led))).get? s.heap.objs.size=some (a7 #[] 0 (.fresh 0 0 led)):=wH _ rfl
   have hT:Shared.TypeIs { s with heap:=s.heap.push (a7 #[] 0 (.fresh 0 0 led)) } (.ref s.heap.objs.size) "set" :=⟨_,hS,rfl⟩
   have hli:=yf.init.lookup
   have hbi:=yf.init.bind (.ref s.heap.objs.size)
   repeat (any_goals (first | assumption | wp_step))
   refine z8 (Ce (R:=wants (λr s₂=>r = .none/\∃h' es tk,s₂={ s with heap:=h',toks:=tk }/\s.toks<=tk ∧
     eG w h' s.heap.objs.size es/\Good kd h' es ks ∧
     (∀b o,s.heap.get? b=some o->h'.get? b=some o)) E) yf.init.plain Dg (check_set_init_1 hT ?_)) λr₂ s₂ hr₂ =>?_
   ·obtain ⟨ol,hol,hcl,nl,hdl⟩:=id hl
    obtain ⟨ocls,odict,odata,oslots⟩:=ol
    simp only at hcl hdl
    subst hcl;subst hdl
    have hol':(s.heap.push (a7 #[] 0 (.fresh 0 0 led))).get? l=some { cls :=.type "tuple",dict:=odict,data :=.seq items nl,slots:=oslots }:=we _ hol
    have hsls:=sub_tuple_set
    have hslf:=sub_tuple_frozenset
    have hne:(AF "tuple" == AF "dict")=false:=by decide
    have hl1:(s.heap.push (a7 #[] 0 (.fresh 0 0 led))).IsTuple l items:=⟨_,hol',rfl,nl,rfl⟩
    unfold Builtin.«set.__init__» noKeywords Builtin.Frozenset.updateFrom
    generalize hPI:pyIter=PI
    wp_walk
    subst hPI
    refine yB hl1 ?_
    refine wg (Bg ?_)
    have hlS:l<s.heap.objs.size:=wJ hol
    have hh3:A.in1.in1.in1.handled=none:=by simp[hh]
    have hneI:l≠(s.heap.push (a7 #[] 0 (.fresh 0 0 led))).objs.size:=by
     rw[gd];exact wV (x6 hlS)
    have hSf:s.heap.objs.size∉[(s.heap.push (a7 #[] 0 (.fresh 0 0 led))).objs.size,l]:=by
     rw[gd];simp only[wZ,wx,Ay,or_false,not_or]
     exact ⟨wV (yr _),y7 hlS⟩
    refine l7 (kd:=kd) ((Cm hh3 _ l hneI items).toS) hrm (λi s' st =>?hI) s.heap.objs.size hSf wY ks hz hb (items.size-0) 0 _ #[] (by lia) (xH _)
     ⟨⟨_,wH _ rfl,rfl,rfl⟩,(hl1.push _)⟩ ?hv (by subst hled;exact i8 (we _ hS)) (Good.nil _) ?hR
    case hI =>
     obtain ⟨o,ho,hc,_⟩:=st.1
     exact ⟨o,ho,by rw[hc];decide⟩
    case hv =>
     intro j v hv
     obtain ⟨q,e,x⟩:=hi j v hv
     exact ⟨q,e,kd.keeps x λb o _ e=>we _ (we _ e)⟩
    case hR =>
     intro s' es' hm hS' hG'
     obtain ⟨h',g',d',tk',os'⟩:=s'
     have eg:g'=s.gens:=hm.gens
     have ed:d'=s.drawn:=hm.drawn
     have eo:os'=s.os:=hm.os
     subst eg;subst ed;subst eo
     show wX _ _ _ _ _ _
     refine wA ?_
     show wX _ _ (ret yW) _ _ _
     refine wA ⟨rfl,h',es',tk',rfl,hm.toks,hS',hG',λb o e =>?_⟩
     have hbb:=wJ e
     have hb1:b≠s.heap.objs.size:=wV hbb
     have hb2:b≠(s.heap.push (a7 #[] 0 (.fresh 0 0 led))).objs.size:=by
      rw[gd];exact wV (x6 hbb)
     exact hm.heap b o (by simp only[wZ,wx,Ay,or_false,not_or];exact ⟨hb1,hb2⟩) (we _ (we _ e))
   ·cases r₂ with
    | error e=>exact hr₂
    | ok fl₂ =>
     cases fl₂ with
     | ret r =>
      obtain ⟨rfl,h',es,tk,rfl,htk,hS',hG',hk'⟩:=hr₂
      repeat (any_goals (first | assumption | wp_step))
      exact h _ _ _ htk hS' hG' hk'
     | _=>exact hr₂.elim
  | _=>exact hr.elim
end
open PySem PySem.SetTable PyProof.Rows PySem.Spec
section
variable  {prog:wL}{w:xg}{A:xF}{E:wm->wu->Prop}{s:wu}
set_option maxHeartbeats 3200000 in
theorem call_set_list {κ:Type}{kd:Kd prog w κ}{l:Addr}{items:Array wm}{ks:List κ}{Q:wm->wu->Prop}
  (hh:A.handled=none) (hrm:kd.room A.in1.in1.in1) (hl:s.heap.IsList l items) (hz:items.size=ks.length) (hi:∀(i:Nat) v,items[i]? = some v->∃q,ks[i]? = some q/\kd.El s.heap v q) (hb:items.size<300)
  (h:∀(h':Heap) (es:Array (Int×wm)) (tk:Nat),s.toks<=tk->eG w h' s.heap.objs.size es->Good kd h' es ks →
   (∀b o,s.heap.get? b=some o->h'.get? b=some o)->Q (.ref s.heap.objs.size) { s with heap:=h',toks:=tk }) :
  wX (xk prog w) A (call (.type "set") [.ref l]) Q E s:=by
 obtain ⟨c,tl,hmro⟩:=yf.mro
 have hmade:=yf.made
 have hsub:=yf.sub
 refine DC (B5 ?_)
 show wX _ _ (callAny (.type "set") _) _ _ _
 refine wA ⟨AZ _ (by decide +kernel),yg CZ ?_⟩
 rw[CG (B6 "set" [.ref l] []) rfl]
 have h1:=yf.notType
 have h2:=yf.canCreate
 have hct:=BI (.ref l)
 repeat (any_goals (first | assumption | wp_step))
 have gd:(s.heap.push (a7 #[] 0 (.fresh 0 0 (!w.params.followText "set-order")))).objs.size=s.heap.objs.size+1:=yR _ _
 refine z8 (oD (w:=w) (.ref l) (E:=E) (Q₁:=λobj s₁=>obj = .ref s.heap.objs.size/\s₁={ s with heap:=s.heap.push (a7 #[] 0 (.fresh 0 0 (!w.params.followText "set-order"))) }) ⟨rfl,rfl⟩) λr s₁ hr =>?_
 cases r with
 | error e=>exact hr
 | ok fl =>
  cases fl with
  | ret obj =>
   obtain ⟨rfl,rfl⟩:=hr
   generalize hled:(!w.params.followText "set-order")=led at gd ⊢
   have hS:(s.heap.push (a7 #[] 0 (.fresh 0 0 led))).get? s.heap.objs.size=some (a7 #[] 0 (.fresh 0 0 led)):=wH _ rfl
   have hT:Shared.TypeIs { s with heap:=s.heap.push (a7 #[] 0 (.fresh 0 0 led)) } (.ref s.heap.objs.size) "set" :=⟨_,hS,rfl⟩
   have hli:=yf.init.lookup
   have hbi:=yf.init.bind (.ref s.heap.objs.size)
   repeat (any_goals (first | assumption | wp_step))
   refine z8 (Ce (R:=wants (λr s₂=>r = .none/\∃h' es tk,s₂={ s with heap:=h',toks:=tk }/\s.toks<=tk ∧
     eG w h' s.heap.objs.size es/\Good kd h' es ks ∧
     (∀b o,s.heap.get? b=some o->h'.get? b=some o)) E) yf.init.plain Dg (check_set_init_1 hT ?_)) λr₂ s₂ hr₂ =>?_
   ·obtain ⟨ol,hol,hcl,nl,hdl⟩:=id hl
    obtain ⟨ocls,odict,odata,oslots⟩:=ol
    simp only at hcl hdl
    subst hcl;subst hdl
    have hol':(s.heap.push (a7 #[] 0 (.fresh 0 0 led))).get? l=some { cls :=.type "list",dict:=odict,data :=.seq items nl,slots:=oslots }:=we _ hol
    have hsls:=PySem.F.sub_list_set
    have hslf:=PySem.F.sub_list_frozenset
    have hne:(AF "list" == AF "dict")=false:=by decide
    have hl1:(s.heap.push (a7 #[] 0 (.fresh 0 0 led))).IsList l items:=⟨_,hol',rfl,nl,rfl⟩
    unfold Builtin.«set.__init__» noKeywords Builtin.Frozenset.updateFrom
    generalize hPI:pyIter=PI
    wp_walk
    subst hPI
    refine zR hl1 ?_
    refine wg (Bg ?_)
    have hlS:l<s.heap.objs.size:=wJ hol
    have hh3:A.in1.in1.in1.handled=none:=by simp[hh]
    have hneI:l≠(s.heap.push (a7 #[] 0 (.fresh 0 0 led))).objs.size:=by
     rw[gd];exact wV (x6 hlS)
    have hSf:s.heap.objs.size∉[(s.heap.push (a7 #[] 0 (.fresh 0 0 led))).objs.size,l]:=by
     rw[gd];simp only[wZ,wx,Ay,or_false,not_or]
     exact ⟨wV (yr _),y7 hlS⟩
    refine l7 (kd:=kd) ((Dz hh3 _ l hneI items).toS) hrm (λi s' st =>?hI) s.heap.objs.size hSf wY ks hz hb (items.size-0) 0 _ #[] (by lia) (xH _)
     ⟨⟨_,wH _ rfl,rfl,rfl⟩,(hl1.push _)⟩ ?hv (by subst hled;exact i8 (we _ hS)) (Good.nil _) ?hR
    case hI =>
     obtain ⟨o,ho,hc,_⟩:=st.1
     exact ⟨o,ho,by rw[hc];decide⟩
    case hv =>
     intro j v hv
     obtain ⟨q,e,x⟩:=hi j v hv
     exact ⟨q,e,kd.keeps x λb o _ e=>we _ (we _ e)⟩
    case hR =>
     intro s' es' hm hS' hG'
     obtain ⟨h',g',d',tk',os'⟩:=s'
     have eg:g'=s.gens:=hm.gens
     have ed:d'=s.drawn:=hm.drawn
     have eo:os'=s.os:=hm.os
     subst eg;subst ed;subst eo
     show wX _ _ _ _ _ _
     refine wA ?_
     show wX _ _ (ret yW) _ _ _
     refine wA ⟨rfl,h',es',tk',rfl,hm.toks,hS',hG',λb o e =>?_⟩
     have hbb:=wJ e
     have hb1:b≠s.heap.objs.size:=wV hbb
     have hb2:b≠(s.heap.push (a7 #[] 0 (.fresh 0 0 led))).objs.size:=by
      rw[gd];exact wV (x6 hbb)
     exact hm.heap b o (by simp only[wZ,wx,Ay,or_false,not_or];exact ⟨hb1,hb2⟩) (we _ (we _ e))
   ·cases r₂ with
    | error e=>exact hr₂
    | ok fl₂ =>
     cases fl₂ with
     | ret r =>
      obtain ⟨rfl,h',es,tk,rfl,htk,hS',hG',hk'⟩:=hr₂
      repeat (any_goals (first | assumption | wp_step))
      exact h _ _ _ htk hS' hG' hk'
     | _=>exact hr₂.elim
  | _=>exact hr.elim
end
open PySem PySem.SetTable PyProof.Rows Srt
section
variable  {prog:wL}{w:xg}{A:xF}{E:wm->wu->Prop}{s:wu}{O:A5}{key:wm->O.α}
end
end STab
namespace L2
open PySem PySem.Spec PyProof.Rows
section
variable  {X:Cx}
def jI (w:xg)(a:Addr)(ys:List V):HO :=.ext λh=>∃es,STab.eG w h a es/\Vals ys (es.toList.map (·.2))
theorem tF {prog:wL}{w:xg}{H:Hp}{h:Heap}{a:Addr}{ys:List V}{es:Array (Int×wm)}(I:STab.eG w h a es)(r:Vals ys (es.toList.map (·.2))):bG prog w (upd H a (jI w a ys)) h a (jI w a ys):=by
 refine ⟨⟨es,I,r⟩,?_,λh1 h2 ⟨es',I',r'⟩ k=>⟨es',I'.at k,r'⟩⟩
 obtain ⟨ep,t,ho,_⟩:=I
 exact ⟨_,ho⟩
theorem p6 (hh:X.A.handled=none):bL X (.type "set") (λxs H Q=>∃(p:Addr) (ns:List Int),xs=[.ref p]/\(SqL X.K H p (ns.map V.int)\/SqT X.K H p (ns.map V.int))/\ns.length<300 ∧
  ∀(a:Addr) (us:List Int),H a=none->(∀k,k∈us↔k∈ns)->us.Nodup->us.length<=ns.length->Q (.ref a) (upd H a (jI X.w a (us.map V.int)))):=by
 intro pins s σ H xs vs Q I r h
 obtain ⟨p,ns,rfl,hs,hl,q⟩:=h
 obtain ⟨u,rfl,ru⟩:=vals1 r
 cases (show u=wN p from ru)
 have goal:∀(h':Heap) (es:Array (Int×wm)) (tk:Nat),s.toks<=tk->STab.eG X.w h' s.heap.objs.size es->STab.Good (STab.oB X.prog X.w) h' es ns →
   (∀b o,s.heap.get? b=some o->h'.get? b=some o)->EP X pins σ Q (.ref s.heap.objs.size) { s with heap:=h',toks:=tk }:=by
  intro h' es tk _ S G k
  have sh:∀v∈es.toList.map (·.2),∃k t,v=xZ k t:=λv hv=>by
   obtain ⟨e,he,rfl⟩:=yv.mp hv
   obtain ⟨k',_,_,t,e'⟩:=G.el e (xq.mp he)
   exact ⟨k',t,e'⟩
  have ru:=kJ (j4 sh)
  have mem:∀k,k∈(es.toList.map (·.2)).map Srt.intOf↔k∈ns:=λk=>by
   constructor
   ·intro m
    obtain ⟨v,hv,rfl⟩:=yv.mp m
    obtain ⟨e,he,rfl⟩:=yv.mp hv
    obtain ⟨k',mk,_,t,e'⟩:=G.el e (xq.mp he)
    rw[e'];exact mk
   ·intro m
    obtain ⟨e,he,t,e'⟩:=G.all k m
    exact yv.mpr ⟨e.2,yv.mpr ⟨e,xq.mpr he,rfl⟩,by rw[e'];rfl⟩
  have nd:((es.toList.map (·.2)).map Srt.intOf).Nodup:=by
   unfold List.Nodup
   rw[yT,yT]
   refine G.dis.imp_of_mem λ{e e'} m m' x y =>?_
   obtain ⟨k1,_,_,t1,e1⟩:=G.el e (xq.mp m)
   obtain ⟨k2,_,_,t2,e2⟩:=G.el e' (xq.mp m')
   rw[e1,e2] at y
   have y':k1=k2:=y
   subst y'
   exact x k1 ⟨t1,e1⟩ ⟨t2,e2⟩
  refine ⟨.ref s.heap.objs.size,_,I.laid k (wq _) (tF S ru),rfl,q _ _ (I.hok.fresh (wq _)) mem nd (by rw[wd,wd,wy];exact G.len)⟩
 have itm:∀(its:List wm),Vals (ns.map V.int) its->∀(i:Nat) (v:wm),its.toArray[i]? = some v->∃q,ns[i]? = some q/\(STab.oB X.prog X.w).El s.heap v q:=by
  intro its rv i v hv
  have hI:=gs rv
  obtain ⟨t,e⟩:=IntsAre.int_at hI i v (by rw[xC] at hv;exact hv)
  have hlt:i<ns.length:=by
   have:=hI.length
   rw[xC] at hv
   have:=(wF.mp hv).1
   lia
  refine ⟨ns.getD i 0,?_,t,e⟩
  rw[wD,wz hlt]
  rfl
 rcases hs with hs | hs
 ·obtain ⟨its,rv,⟨o,n,e,c,dn,d⟩,z⟩:=I.list hs
  have lz:its.length=ns.length:=by have:=rv.length;rw[wd] at this;exact this.symm
  exact STab.call_set_list (kd:=STab.oB X.prog X.w) (items:=its.toArray) (ks:=ns) hh trivial ⟨o,e,c,n,d⟩ (by simp[lz]) (itm its rv) (by simpa [lz] using hl) goal
 ·obtain ⟨its,rv,⟨o,e,c,n,d⟩,z⟩:=I.tuple hs
  have lz:its.length=ns.length:=by have:=rv.length;rw[wd] at this;exact this.symm
  exact STab.i9 (kd:=STab.oB X.prog X.w) (items:=its.toArray) (ks:=ns) hh trivial ⟨o,e,c,n,d⟩ (by simp[lz]) (itm its rv) (by simpa [lz] using hl) goal
end
open PySem PySem.Spec PyProof.Rows
section
variable  {X:Cx}{w:xg}
theorem ja (hw:X.w=w)(hh:X.A.handled=none):bL X (.type "set") (λxs H Q=>∃(p:Addr) (ns:List Int),xs=[.ref p]/\(SqL X.K H p (ns.map V.int)\/SqT X.K H p (ns.map V.int))/\ns.length<300 ∧
  ∀(a:Addr) (us:List Int),H a=none->(∀k,k∈us↔k∈ns)->us.Nodup->us.length<=ns.length->Q (.ref a) (upd H a (jI w a (us.map V.int)))):=by
 subst hw
 exact p6 hh
end
open PySem PySem.Spec PyProof.Rows
section
variable  {X:Cx}
def tBMT (r:V->List V->Hp->VK->Prop)(to:TE)(t:TA):TE:=λσ H Q=>to σ H λx H1=>(∃p xs,x = .ref p/\H1 p=some (.tup xs))/\t σ H1 λxs H2=>r x xs H2 Q
theorem rz {o e:Expr}{es:List Expr}{to:TE}{t:TA}{name:Str}{apos cpos:Pos}{id:String}{r:V->List V->Hp->VK->Prop}(slot:Slot "tuple" name id)(hty:typeOf (.builtin id)=pure (.type "method_descriptor"))(hm:MtR X id r)(ho:PE X o to)(ha:PA X (e :: es) t)
  (hbase:attributeBase o name X.env (eval o X.env)=eval o X.env:=by rfl)
  (hfew:((Bp cpos (xO (e :: es) X.env)).all (λx => !x.1) && (backToKw cpos (keywordEach [] X.env)).all (λx=>x.1.isSome)
   && decide ((e :: es).length+([]:List Keyword).length+(if ([]:List Keyword).isEmpty then 0 else 1)<30))=true:=by rfl)
  (hline:(apos.endLine == cpos.line)=true:=by rfl) (hs:xO (e :: es) X.env=(false,eval e X.env) :: xO es X.env:=by rfl) (hplain:(Bp cpos (xO es X.env)).any (·.1)=false:=by rfl) :
  PE X (.Call (.Attribute o name apos) (e :: es) [] cpos) (tBMT r to t):=by
 intro pins s σ H Q I h
 refine BK hbase hfew hline rfl (thn (ho pins s σ H _ I h) λv s1 ⟨x,H1,I1,r1,ty,q1⟩ =>?_)
 obtain ⟨p,xs,rfl,hp⟩:=ty
 cases (show v=wN p from r1)
 obtain ⟨_,its,_,ob,e1,⟨c1,d1⟩,n,s1'⟩:=(show bG X.prog X.w H1 s1.heap p (.tup xs) from I1.hok p _ hp)
 refine ⟨"tuple",id,PySem.F.plainAttrs_tuple,slot,hty,⟨ob,e1,c1⟩,λa e=>by cases e;exact ⟨ob,e1,d1⟩,?_⟩
 have hA:=ha cpos pins s1 σ H1 _ I1 q1
 rw[hs] at hA ⊢
 refine BF (by show (false || (Bp cpos (xO es X.env)).any (·.1))=false;rw[hplain] <;> rfl) (Cb ?_)
 exact thn hA λus s2 ⟨vs,H2,I2,r2,q2⟩=>hm pins s2 σ H2 (.ref p) vs _ us Q I2 rfl r2 q2
theorem kh:∀{ns:List Int} {xs:List wm} {prog:wL} {w:xg},Aj xs ns->ItemsAre (intKind prog w) ns xs
 | _,_,_,_,.nil =>.nil
 | _,_,_,_,.cons n t r =>.cons (B9 _ _ _ _) (kh r)
theorem Inv.tkA {pins:List (Addr×Obj)}{σ:St}{H:Hp}{s:wu}(I:Inv X pins σ H s){b:Addr}{ns:List Int}(h:SqT X.K H b (ns.map V.int))(prog:wL)(w:xg):IsTupleKey (intKind prog w) s.heap ns b:=by
 obtain ⟨its,r,⟨o,e,c,n,d⟩,_⟩:=I.tuple h
 exact ⟨o,_,n,e,c,d,kh (by simpa using intsAre_of r)⟩
theorem Inv.eqT {pins:List (Addr×Obj)}{σ:St}{H:Hp}{s:wu}(I:Inv X pins σ H s){A:xF}(hu:A.units<cLine){a b:Addr}{ns ms:List Int}(h1:SqT X.K H a (ns.map V.int))(h2:SqT X.K H b (ms.map V.int)):zk A s (.ref a) (.ref b) (decide (ns=ms)) :=
 λprog w E Q q=>wpAny_eqBool_tuple hu (I.tkA h1 prog w) (I.tkA h2 prog w) q
theorem jb:∀{ps:List (Addr×List Int)} {us:List wm},Vals (ps.map λx=>V.ref x.1) us->us=ps.map λx=>wN x.1
 | [],_,r=>by cases r;rfl
 | p :: ps,_,r=>by
  cases r with
  | cons h t=>rw[xv, <- jb t,show _=wN p.1 from h]
noncomputable def kO (ts:List (Addr×List Int))(m:List Int):wm->Bool:=λv=>decide (∃t∈ts,v = .ref t.1/\t.2=m)
theorem ki {pins:List (Addr×Obj)}{σ:St}{H:Hp}{s:wu}(I:Inv X pins σ H s){ts:List (Addr×List Int)}(ht:∀t∈ts,SqT X.K H t.1 (t.2.map V.int)){m:List Int}{t:Addr×List Int}(hm:t∈ts):kO ts m (.ref t.1)=decide (t.2=m):=by
 unfold kO
 by_cases e:t.2=m
 ·rw[decide_eq_true e,decide_eq_true ⟨t,hm,rfl,e⟩]
 ·rw[decide_eq_false e,decide_eq_false]
  rintro ⟨t',m',e1,e2⟩
  injection e1 with e1
  have:=I.gJ (ht t hm) (by rw[e1];exact ht t' m')
  have inj:Function.Injective V.int:=λa b h=>by injection h
  have:t.2=t'.2:=(List.map_inj_right (λx y h=>inj h)).mp this
  exact e (this.trans e2)
theorem jf {pins:List (Addr×Obj)}{σ:St}{H:Hp}{s:wu}(I:Inv X pins σ H s){ts:List (Addr×List Int)}(ht:∀t∈ts,SqT X.K H t.1 (t.2.map V.int)){m:List Int}:∀us:List (Addr×List Int),(∀t∈us,t∈ts)->(us.map λt=>wN t.1).countP (kO ts m)=(us.map (·.2)).count m
 | [],_=>rfl
 | u :: us,h=>by
  rw[xv,xv,List.countP_cons,List.count_cons,jf I ht us (λt hm=>h t (xf _ hm)),ki I ht (h u wY)]
  by_cases e:u.2=m
  ·rw[decide_eq_true e,e];simp
  ·rw[decide_eq_false e];simp[e]
theorem jg (hu:X.A.units+8<cLine):MtR X "tuple.count" (λx vs H Q=>∃(p b:Addr) (ts:List (Addr×List Int)) (m:List Int),x = .ref p/\vs=[.ref b]/\H p=some (.tup (ts.map λt =>.ref t.1))/\(∀t∈ts,H t.1=some (.tup (t.2.map V.int)))/\H b=some (.tup (m.map V.int))/\Q (.int ((ts.map (·.2)).count m:Nat)) H):=by
 intro pins s σ H x vs v us Q I rx rv h
 obtain ⟨p,b,ts,m,rfl,rfl,hp,ht,hb,q⟩:=h
 cases rx
 obtain ⟨u,rfl,ru⟩:=vals1 rv
 cases (show u=wN b from ru)
 have ht':∀t∈ts,SqT X.K H t.1 (t.2.map V.int):=λt hm=>SqT.of (ht t hm)
 obtain ⟨z,its,r,ob,e1,⟨c1,d1⟩,n,s1⟩:=(show bG X.prog X.w H s.heap p (.tup _) from I.hok p _ hp)
 have ei:=jb r
 obtain ⟨cls,dd,data,sl⟩:=ob
 simp only at c1 s1
 subst c1 s1
 refine C1 z7 ⟨_,e1,rfl⟩ PySem.F.entry_tuple_count (PySem.F.args_tuple_count_2 _ _) (SeqAt.tuple_countAt p its.toArray n dd sl (.ref b) (kO ts m)) ⟨e1,λy hy =>?_,?_⟩
 ·have hy':y∈its:=by simpa using hy
  rw[ei] at hy'
  obtain ⟨t,hm,rfl⟩:=yv.mp hy'
  rw[ki I ht' hm]
  exact I.eqT (by show X.A.units+1<cLine;lia) (ht' t hm) (SqT.of hb)
 ·rw[show its.toArray.toList=its from rfl,ei,jf I ht' ts (λt h=>h)]
  exact ⟨.int _,H,I.tok _,⟨_,rfl⟩,q⟩
theorem cq:∀{its:List wm} {ns:List Int},Aj its ns->∃xs:List (Int×Tok),its=xs.map (λp=>xZ p.1 p.2)/\xs.map (·.1)=ns
 | _,_,.nil=>⟨[],rfl,rfl⟩
 | _,_,.cons n t r=>by
  obtain ⟨xs,e1,e2⟩:=cq r
  exact ⟨(n,t) :: xs,by rw[xv, <- e1],by rw[xv,e2]⟩
theorem gw (hh:X.A.handled=none):bL X (.builtin "sum") (λxs H Q=>∃(p:Addr) (ns:List Int),xs=[.ref p]/\H p=some (.lst (ns.map V.int))/\Q (.int ns.sum) H):=by
 intro pins s σ H xs us Q I r h
 obtain ⟨p,ns,rfl,hp,q⟩:=h
 obtain ⟨u,rfl,ru⟩:=vals1 r
 cases (show u=wN p from ru)
 obtain ⟨z,its,n,r,e1⟩:=(show bG X.prog X.w H s.heap p (.lst _) from I.hok p _ hp)
 obtain ⟨zs,e2,e3⟩:=cq (intsAre_of r)
 have ei:its.toArray=yL zs.toArray:=by rw[e2];simp[yL]
 refine sum_intListG hh (xs:=zs.toArray) ⟨_,e1,rfl,n,by rw[ei]⟩ λh' tk t' k =>?_
 rw[preSum_eq,yd (by simp),e3]
 exact ⟨.int _,H,I.kept k,⟨_,rfl⟩,q⟩
end
end L2
namespace HT
open PySem PySem.Spec PyProof.Rows
section
variable  {prog:wL}{w:xg}{A:xF}{E:wm->wu->Prop}{s:wu}
theorem fI {t sl:Addr}{items:Array wm}{vl vu:wm}{lo hi:Option Int}{Q:wm->wu->Prop}(ht:IsTup s.heap t items)(hs:s.heap.IsSliceOf sl vl vu .none)(pl:IsPart vl lo)(pu:IsPart vu hi)
  (hw:sIx items.size 0 lo=0/\sIx items.size items.size hi=items.size) (h:Q (.ref t) s):wX (xk prog w) A (getItem (.ref t) (.ref sl)) Q E s:=by
 obtain ⟨os,hos,hcs,hds⟩:=id hs
 have hTs:s.TypeIs (.ref sl) "slice" :=⟨os,hos,hcs⟩
 unfold getItem
 try with_reducible refine yi ?_
 first | refine wg (wA ?_) | skip
 refine wg (Bo ht.typeIs (by decide) ?_)
 refine wg (yC (name:=Str.ofString "__getitem__") ht.typeIs xu
  (yt xu ht.typeIs entry_tuple_getitem ?_ (A4 _ _)))
 show wX _ _ (Builtin.Tuple.tupleItemsOf (.ref t) >>= _) _ _ s
 refine wg (CK ht ?_)
 refine wg (z9 hTs ?_)
 rw[if_pos (by decide)]
 refine wg (dG hs pl pu ?_)
 show wX _ _ (if (((sIx items.size 0 lo:Nat):Int) == 0 && (1:Int) == 1 && (sIx items.size items.size hi-sIx items.size 0 lo) == items.size)=true then _ else _) _ _ s
 rw[hw.1,hw.2,if_pos (by simp)]
 unfold Builtin.Tuple.tupleIsExact
 refine wg (wg (z9 ht.typeIs (wA ?_)))
 rw[if_pos (by decide)]
 exact wg (zS (wA ⟨_,rfl,wA h⟩))
end
end HT
namespace L2
open PySem PySem.Spec PyProof.Rows
section
variable  {X:Cx}
theorem tG:SlR X (λx lo hi H Q=>∃a xs,x = .ref a/\SqT X.K H a xs/\((HT.sIx xs.length 0 lo=0/\HT.sIx xs.length xs.length hi=xs.length)->Q (.ref a) H) ∧
  (¬ (HT.sIx xs.length 0 lo=0/\HT.sIx xs.length xs.length hi=xs.length)->∀p,H p=none->Q (.ref p) (upd H p (.tup (bM xs lo hi))))):=by
 intro pins s σ H x v vl vu lo hi sl Q I rx hs pl pu h
 obtain ⟨a,xs,rfl,hx,q1,q2⟩:=h
 by_cases hw:HT.sIx xs.length 0 lo=0/\HT.sIx xs.length xs.length hi=xs.length
 ·cases rx
  obtain ⟨its,r,ht,hz⟩:=I.tuple hx
  have hlen:its.toArray.size=xs.length:=by rw[wk];exact r.length.symm
  refine ⟨"tuple",_,xu.lookup,ht.typeIs,?_⟩
  exact HT.fI ht hs pl pu (by rw[hlen];exact hw) ⟨.ref a,H,I,rfl,q1 hw⟩
 ·exact uI pins s σ H _ v vl vu lo hi sl Q I rx hs pl pu ⟨a,xs,rfl,hx,hw,q2 hw⟩
theorem ip:bL X (.type "range") (λxs H Q=>∃n:Int,xs=[.int n]/\∀a,H a=none->Q (.ref a) (upd H a (.rng 0 n))):=by
 intro pins s σ H xs us Q I r h
 obtain ⟨n,rfl,q⟩:=h
 obtain ⟨u,rfl,⟨t,rfl⟩⟩:=vals1 r
 refine call_range_1 ?_
 exact ⟨.ref s.heap.objs.size,_,I.laid (o :=.rng 0 n) (λb ob q=>we _ q) (wq _) ⟨_,_,_,wH _ rfl⟩,rfl,q _ (I.hok.fresh (wq _))⟩
end
section
variable  {prog:wL}{w:xg}{A:xF}{E:wm->wu->Prop}{s:wu}
theorem jJ {R:List wm->wu->Prop}{r:Addr}{n:Nat}{t u v:Tok}(hh:A.handled=none)(hr:IsRange s.heap r 0 n 1 t u v)(hn:n<=2 ^ 24)
    (h:∀(h1:Heap) (tk:Nat) (vs:List wm),vs.length=n->(∀(i:Nat) (x:wm),vs[i]? = some x->∃t,x = .int i t)->(∀b o,s.heap.get? b=some o->h1.get? b=some o)->R vs { s with heap:=h1,toks:=tk }) :
    wX (xk prog w) A (collect (.ref r)) R E s:=by
  have hlt:r<s.heap.objs.size:=wJ (show s.heap.get? r=some _ from hr)
  unfold collect
  refine wg (Bg (yg PySem.F.entry_proto_collect ?_))
  rw[yj PySem.F.plain_proto_collect _]
  show wX _ A.in1 (newList [] >>= λl=>again (.builtin "list.__iadd__" ⟨[l,.ref r],[]⟩)) _ _ s
  refine wg (xG ?_)
  refine wA ⟨zx Bv _,yg PySem.F.entry_list_iadd ?_⟩
  rw[yj Bv _]
  show wX _ A.in1 (zM (.ref s.heap.objs.size) (.ref r) (.ref s.heap.objs.size)) _ _ { s with heap:=s.heap.push { cls :=.type "list",data :=.seq ([]:List wm).toArray } }
  have hr1:IsRange (s.heap.push { cls :=.type "list",data :=.seq ([]:List wm).toArray }) r 0 n 1 t u v:=we _ hr
  have rs:Builtin.Range.rangeSize 0 (n:Int) 1=(n:Int):=by
    rw[rangeSize_one]
    split <;> lia
  have hlen24:n<=16777216:=hn
  have hS0:(s.heap.push { cls :=.type "list",data :=.seq ([]:List wm).toArray }).get? s.heap.objs.size=some { cls :=.type "list",data :=.seq #[] 0 }:=wH _ rfl
  refine wpAny_extend_range (A:=A) (R:=λres s'=>match res with
      | .ok (.ret v)=>wX (xk prog w) A (match v with | .ref a=>(do match (← load a).data with | .seq xs _=>pure xs.toList | _=>unsupported "internal:collect") | _=>unsupported "internal:collect") R E s'
      | .ok _=>False
      | .error e=>E e s') (s:={ s with heap:=s.heap.push { cls :=.type "list",data :=.seq ([]:List wm).toArray } }) hh hr1 (small_one (by lia) (by lia) (by lia) (by lia)) rs hn s.heap.objs.size (.ref s.heap.objs.size) 0 hS0 λh' tk acc' c' kk hS' hacc =>?_
  show wX _ A (load s.heap.objs.size >>= _) _ _ { s with heap:=h',toks:=tk }
  refine wg (DB hS' ?_)
  refine wA (h h' tk acc'.toList (by rw[wy];exact hacc.1) (λi x hx =>?_) λb o e=>kk b o (wV (wJ e)) (we _ e))
  rw[wI] at hx
  obtain ⟨t',e⟩:=hacc.2 i x hx
  exact ⟨t',by rw[e];simp⟩
theorem eI (r:Addr)(n:Nat)(t u v:Tok)(hn:n<=1000) :
  Meets (Builtin.«tuple.__new__» ⟨[.type "tuple",.ref r],[]⟩)
   (λA R s=>A.handled=none/\IsRange s.heap r 0 n 1 t u v/\∀(h':Heap) (tk:Nat) (vs:List wm),vs.length=n->(∀(i:Nat) (x:wm),vs[i]? = some x->∃t,x = .int i t)->(∀b o',s.heap.get? b=some o'->h'.get? b=some o')->R (.ok (.ret (.ref h'.objs.size))) { s with heap:=h'.push { cls :=.type "tuple",data :=.seq vs.toArray },toks:=tk }) :=
 .of_wp λprog w A R s h=>by
  obtain ⟨hp,g,d,tk,os⟩:=s;obtain ⟨hh,ht,h⟩:=h
  have hsub:=sub_tuple_self
  have hinit:=init_tuple_lookup
  have hmh:=madeHere_tuple
  have hT:Shared.TypeIs ⟨hp,g,d,tk,os⟩ (.ref r) "range" :=⟨_,ht,rfl⟩
  wp_walk using z9 hT,jJ (by simpa using hh) ht (by lia)
  intro h' tk' vs lv hv hk
  show wX _ _ (Builtin.Tuple.tupleExact vs.toArray >>= λv=>ret v) _ _ _
  unfold Builtin.Tuple.tupleExact
  refine wg (xG ?_ (by show vs.toArray.size<=wo;rw[wk,lv];exact small hn))
  exact wA ⟨_,rfl,h h' tk' vs lv hv hk⟩
end
section
variable  {X:Cx}
theorem nq:∀{vs:List wm},(∀(i:Nat) (x:wm),vs[i]? = some x->∃t,x=xZ i t)->Vals ((xE vs.length).map λi=>V.int (i:Nat)) vs:=by
 suffices h:∀(vs:List wm) (k:Nat),(∀(i:Nat) (x:wm),vs[i]? = some x->∃t,x=xZ ((i+k:Nat):Int) t)->Vals ((List.range' k vs.length).map λi=>V.int (i:Nat)) vs by
  intro vs hv
  have:=h vs 0 hv
  rw[List.range_eq_range']
  exact this
 intro vs
 induction vs with
 | nil=>intro k _;exact .nil
 | cons x vs ih =>
  intro k hv
  rw[xn,List.range'_succ,xv]
  refine .cons ?_ (ih (k+1) λi y hy =>?_)
  ·obtain ⟨t,e⟩:=hv 0 x rfl
   exact ⟨t,by rw[e,zo]⟩
  ·obtain ⟨t,e⟩:=hv (i+1) y (by rw[zu];exact hy)
   exact ⟨t,by rw[e,show i+1+k=i+(k+1) by lia]⟩
theorem l8 (hh:X.A.handled=none):bL X (.type "tuple") (λxs H Q=>∃(a:Addr) (n:Nat),xs=[.ref a]/\H a=some (.rng 0 n)/\n<=1000/\∀l,H l=none->Q (.ref l) (upd H l (.tup ((xE n).map λi=>V.int (i:Nat))))):=by
 intro pins s σ H xs us Q I r h
 obtain ⟨a,n,rfl,ha,hn,q⟩:=h
 obtain ⟨u,rfl,ru⟩:=vals1 r
 cases (show u=wN a from ru)
 obtain ⟨t,u,v,e⟩:=(show bG X.prog X.w H s.heap a (.rng 0 n) from I.hok a _ ha)
 refine callType_new PySem.F.called_tuple (by decide) (PySem.F.typeCall_tuple_1 _) (PySem.F.newCall_tuple_1 _) (λobj=>PySem.F.args_object_init_2 obj _) PySem.F.entry_tuple_new
  (eI a n t u v hn) ⟨by simpa using hh,e,λh' tk vs lv hv k=>⟨⟨_,wH _ rfl,rfl⟩,?_⟩⟩
 have I1:Inv X pins σ H { s with heap:=h',toks:=tk }:=I.kept k
 have rv:=nq hv
 rw[lv] at rv
 exact ⟨.ref h'.objs.size,_,I1.laid (o :=.tup ((xE n).map λi=>V.int (i:Nat))) (λb ob q=>we _ q) (wq _) ⟨by rw[wd,yG];exact small hn,vs,rv,cV.new _ _⟩,rfl,q _ (I1.hok.fresh (wq _))⟩
end
open PySem PyProof.Rows
section
variable  {X:Cx}
def vb (ns ms:List Int)(j:Nat):Bool:=ns.getD j 0 == ms.getD j 0
theorem rA {ns ms:List Int}(h:ns.length=ms.length):((xE ns.length).all λj=>vb ns ms j)=decide (ns=ms):=by
 rw[ze,decide_eq_true_iff,yq]
 constructor
 ·intro hh
  refine Dh h λj h1 h2 =>?_
  have:=hh j (xD.mpr h1)
  unfold vb at this
  rw[wD,wD,wz h1,wz h2] at this
  exact of_decide_eq_true (by simpa using this)
 ·rintro rfl j _
  exact beq_self_eq_true _
theorem intAt {ns:List Int}{us:List wm}(r:Vals (ns.map V.int) us){j:Nat}(h:j<us.toArray.size):∃t,us.toArray[j] = .int (ns.getD j 0) t:=by
 have l:=r.length
 rw[wd] at l
 rw[wk] at h
 have e1:(ns.map V.int)[j]? = some (.int (ns.getD j 0)):=by
  rw[xh,wD,wz (by lia)]
  rfl
 obtain ⟨u,g1,q1⟩:=r.get e1
 have f1:us.toArray[j]=u:=by simp[wF] at g1;obtain ⟨_,g⟩:=g1;simpa using g
 rw[f1]
 exact q1
end
end L2
namespace HT
open PySem PySem.Spec PyProof.Rows
section
variable  {prog:wL}{w:xg}{A:xF}{R:Result->wu->Prop}{I:Addr}{fp wr:List Addr}{n:Nat}{P:Nat->wm->Prop}{St:Nat->Heap->Prop}{kw:List (Str×wm)}
end
section
variable  {prog:wL}{w:xg}{A:xF}{E:wm->wu->Prop}{s:wu}{l:Addr}{xs:Array (Int×Tok)}
end
end HT
namespace L2
open PySem PyProof.Rows
section
variable  {X:Cx}{x:Str}{id:String}{e:Expr}{es:List Expr}{kws:List Keyword}{p pos:Pos}{t tk:TA}{ks:List Str}{r:List V->List V->Hp->VK->Prop}
end
open PySem PyProof.Rows
section
variable  {X:Cx}
theorem nr {ns:List Int}{j:Nat}(h:j<ns.length):ns.getD j 0∈ns:=by
 rw[wD,wz h]
 exact yD h
theorem nv {ns:List Int}{a:Int}(h:a∈ns):∃j,j<ns.length/\ns.getD j 0=a:=by
 obtain ⟨j,hj,e⟩:=AL h
 exact ⟨j,hj,by rw[wD,wz hj];exact e⟩
end
end L2
namespace L2.Rev
open PySem
open Sem (wp)
section
variable  {prog:wL}{w:xg}{A:xF}{E:wm->wu->Prop}{s:wu}
end
end L2.Rev
namespace L2
open PySem PySem.Spec PyProof.Rows
section
variable  {X:Cx}
theorem l9:xJ "reversed" = some (.type "reversed"):=by decide +kernel
end
end L2
namespace L2.Rem
open PySem PySem.SeqAt PySem.MeetsSeq
open AutoSeq1 (wpAny_loadPart')
end L2.Rem
namespace L2
open PySem PySem.Spec PyProof.Rows
section
variable  {X:Cx}
theorem any_range {bs:List Bool}:((xE bs.length).any λi=>bs.getD i false)=bs.any id:=by
 rw[ze,zz,zz]
 constructor
 ·rintro ⟨i,hi,h⟩
  have lt:=xD.mp hi
  rw[wD,wz lt] at h
  exact ⟨bs[i],yD lt,h⟩
 ·rintro ⟨b,hb,h⟩
  obtain ⟨i,lt,e⟩:=AL hb
  refine ⟨i,xD.mpr lt,?_⟩
  rw[wD,wz lt,e]
  exact h
theorem gz (hc:X.calm=true):bL X (.builtin "any") (λxs H Q=>∃(p:Addr) (bs:List Bool),xs=[.ref p]/\SqL X.K H p (bs.map V.bl)/\Q (.bl (bs.any id)) H):=by
 intro pins s σ H xs us Q I r h
 obtain ⟨p,bs,rfl,hs,q⟩:=h
 obtain ⟨u,rfl,ru⟩:=vals1 r
 cases (show u=wN p from ru)
 obtain ⟨its,rv,pl,hz⟩:=I.list hs
 have l:=rv.length
 rw[wd] at l
 have hpl:p<s.heap.objs.size:=by obtain ⟨o,_,e,_⟩:=pl;exact wJ e
 refine call_any_walk (zR pl.isList ?_)
 have hd:X.A.in1.handled=none:=I.ok.hd hc
 refine ⟨s.heap.objs.size,_,_,_,_,_,_,rfl,Dz hd s.heap.objs.size p (wV hpl) its.toArray,⟨⟨_,wH _ rfl,rfl,rfl⟩,?_⟩,ig rv,λh' tk k =>?_⟩
 ·exact pl.isList.at λo e=>we _ e
 ·have e:((xE its.toArray.size).any λi=>bs.getD i false)=bs.any id:=by rw[wk, <- l,any_range]
  rw[e]
  refine ⟨.bl (bs.any id),H,I.kept (t':=tk) (λb o eb=>k b o ?_ (we _ eb)),rfl,q⟩
  intro hb
  have:b=s.heap.objs.size:=by simpa using hb
  exact absurd (wJ eb) (by rw[this];exact xK _)
theorem op_neTE {k:Nat}(hr:cy k X.A):OpR X (xY .NotEq) (λx y H Q=>∃a b xs ys,x = .ref a/\y = .ref b/\SqT X.K H a xs/\SqT X.K H b ys/\Paired (eX X.K H 20) xs ys/\Q (.bl false) H):=by
 intro pins s σ H x y v u Q I rx ry h
 obtain ⟨a,b,xs,ys,rfl,rfl,h1,h2,p,q⟩:=h
 cases (show v=wN a from rx)
 cases (show u=wN b from ry)
 obtain ⟨its,r1,p1,_⟩:=I.tuple h1
 obtain ⟨its2,r2,p2,_⟩:=I.tuple h2
 have l1:=r1.length
 have l2:=r2.length
 have pl:=zq p
 have hu:=hr.un
 have hu1:X.A.units<cLine:=by lia
 have R:=Cn (A:=X.A) (e:=λ_=>true) (show s.heap.IsTuple a its.toArray from p1) (show s.heap.IsTuple b its2.toArray from p2) hu1 (cO p r1 r2 λx y u v h1 h2 h3=>gT I 20 _ x y u v (by show X.A.units+1+_<cLine;lia) h1 h2 h3)
 rw[wk,wk, <- l1, <- l2,pl,BR,beq_self_eq_true,all_true] at R
 exact R _ _ _ _ ⟨.bl false,H,I,rfl,q⟩
theorem tH {k:Nat}(hr:cy k X.A):OpR X (xY .Eq) (λx y H Q=>∃a b xs ys,x = .ref a/\y = .ref b/\SqL X.K H a xs/\SqL X.K H b ys/\Paired (eX X.K H 20) xs ys/\Q (.bl true) H):=by
 intro pins s σ H x y v u Q I rx ry h
 obtain ⟨a,b,xs,ys,rfl,rfl,h1,h2,p,q⟩:=h
 cases (show v=wN a from rx)
 cases (show u=wN b from ry)
 obtain ⟨its,r1,p1,_⟩:=I.list h1
 obtain ⟨its2,r2,p2,_⟩:=I.list h2
 have l1:=r1.length
 have l2:=r2.length
 have pl:=zq p
 have hu:=hr.un
 have hu1:X.A.units<cLine:=by lia
 have R:=Av (A:=X.A) (e:=λ_=>true) p1.isList p2.isList (by rw[wk,wk, <- l1, <- l2,pl]) hu1 (cO p r1 r2 λx y u v h1 h2 h3=>gT I 20 _ x y u v (by show X.A.units+1+_<cLine;lia) h1 h2 h3)
 rw[all_true] at R
 exact R _ _ _ _ ⟨.bl true,H,I,rfl,q⟩
end
open PySem PySem.Spec PyProof.Rows
section
variable  {X:Cx}
theorem iq:bL X (.builtin "len") (λxs H Q=>∃(a:Addr) (ys:List V),xs=[.ref a]/\H a=some (jI X.w a ys)/\ys.length<1000/\Q (.int ys.length) H):=by
 intro pins s σ H xs us Q I r h
 obtain ⟨a,ys,rfl,ha,hl,q⟩:=h
 obtain ⟨u,rfl,ru⟩:=vals1 r
 cases (show u=wN a from ru)
 obtain ⟨⟨es,⟨ep,t,ho,T,_⟩,rv⟩,_⟩:=(show bG X.prog X.w H s.heap a (jI X.w a ys) from I.hok a _ ha)
 have l:=rv.length
 have l2:es.size=ys.length:=by simpa using l.symm
 refine call_len_set ho ⟨rfl,rfl,rfl⟩ rfl (by have:=T.fits;rwa [xT] at this) (by lia) ?_
 rw[l2]
 exact ⟨.int ys.length,H,I.tok _,⟨_,rfl⟩,q⟩
end
open PySem PySem.Spec PyProof.Rows
theorem rB {xs:List Int}{d:Int}(h0:0<=d)(h1:d<xs.length):∃v,v∈xs/\atI (xs.map V.int) d=some (.int v):=by
 obtain ⟨n,rfl⟩:∃n:Nat,d=n:=⟨d.toNat,by lia⟩
 have hn:n<xs.length:=by lia
 refine ⟨xs[n],yD hn,fw ?_⟩
 rw[xh,wz hn]
 rfl
theorem iD {α:Type}{g:α -> Addr}{ts:List α}{d:Int}(h0:0<=d)(h1:d<ts.length):∃u,u∈ts/\atI (ts.map λt=>V.ref (g t)) d=some (.ref (g u)):=by
 obtain ⟨n,rfl⟩:∃n:Nat,d=n:=⟨d.toNat,by lia⟩
 have hn:n<ts.length:=by lia
 refine ⟨ts[n],yD hn,fw ?_⟩
 rw[xh,wz hn]
 rfl
theorem eJ (k:Int):∀ps:List Int,inV (.int k) (ps.map V.int)=decide (k∈ps)
 | []=>by simp[inV]
 | p :: ps=>by
  have ih:=eJ k ps
  unfold inV at ih ⊢
  rw[xv,Cv,ih]
  have e:eqV (.int p) (.int k)=(p == k):=rfl
  rw[e]
  by_cases h:p=k
  ·subst h;simp
  ·rw[beq_eq_false_iff_ne.mpr h,Bool.false_or]
   apply decide_eq_decide.mpr
   rw[wZ]
   exact ⟨.inr,λx=>x.elim (λy=>absurd y.symm h) id⟩
theorem p7 (ns:List Int)(lo hi:Option Int):∃ms:List Int,bM (ns.map V.int) lo hi=ms.map V.int/\ms.length<=ns.length/\∀v∈ms,v∈ns:=by
 refine ⟨(ns.drop (HT.sIx (ns.map V.int).length 0 lo)).take (HT.sIx (ns.map V.int).length (ns.map V.int).length hi-HT.sIx (ns.map V.int).length 0 lo),?_,?_,λv hv=>yN (yO hv)⟩
 ·unfold bM
  rw[zP,CD]
 ·rw[xX,yp]
  lia
def Pt (n:Nat)(H:Hp)(p:Addr):Prop:=∃xs:List Int,xs.length=n/\H p=some (.lst (xs.map V.int))
structure Bu (n:Nat)(p:Addr)(H H':Hp):Prop where
 pot:Pt n H' p
 st:∀q o,q≠p->H q=some o->H' q=some o
theorem Pt.same {n:Nat}{p:Addr}{H H1:Hp}(a:Pt n H p)(s:aK H H1):Pt n H1 p:=by obtain ⟨xs,l,e⟩:=a;exact ⟨xs,l,s _ _ e⟩
theorem Pt.neT {n:Nat}{p b:Addr}{H:Hp}{ys:List V}(a:Pt n H p)(h:H b=some (.tup ys)):b≠p:=by
 obtain ⟨xs,_,e⟩:=a
 exact jP h e (by intro z;cases z)
theorem Bu.refl {n:Nat}{p:Addr}{H:Hp}(h:Pt n H p):Bu n p H H:=⟨h,λ_ _ _ z=>z⟩
theorem Bu.trans {n:Nat}{p:Addr}{H H1 H2:Hp}(a:Bu n p H H1)(b:Bu n p H1 H2):Bu n p H H2:=⟨b.pot,λq o m z=>b.st q o m (a.st q o m z)⟩
theorem Bu.same {n:Nat}{p:Addr}{H H1 H2:Hp}(a:Bu n p H H1)(b:aK H1 H2):Bu n p H H2:=⟨a.pot.same b,λq o m z=>b _ _ (a.st q o m z)⟩
theorem Bu.put {n:Nat}{p:Addr}{H H1:Hp}(a:Bu n p H H1){ys:List Int}(l:ys.length=n):Bu n p H (upd H1 p (.lst (ys.map V.int))):=⟨⟨ys,l,ae⟩,λq o m z=>by rw[aF m];exact a.st q o m z⟩
theorem Bu.dW {n:Nat}{p l:Addr}{H H1:Hp}(a:Bu n p H H1)(hl:H l=none)(np:l≠p)(o:HO):Bu n p H (upd H1 l o):=⟨by obtain ⟨xs,z,e⟩:=a.pot;exact ⟨xs,z,by rw[aF np.symm];exact e⟩,λq u m z=>by rw[aF (aR z hl)];exact a.st q u m z⟩
theorem Bu.tup {n:Nat}{p q:Addr}{H H1:Hp}(a:Bu n p H H1)(h:Pt n H p){xs:List V}(t:H q=some (.tup xs)):H1 q=some (.tup xs):=a.st q _ (h.neT t) t
theorem Bu.fresh {n:Nat}{p:Addr}{H H':Hp}{o:HO}(h:H p=none)(b:Bu n p (upd H p o) H'):aK H H':=λq u e=>by
 have m:q≠p:=aR e h
 refine b.st q u m ?_
 rw[aF m]
 exact e
def Tus (H:Hp)(ts:List (Addr×List Int)):Prop:=∀u∈ts,H u.1=some (.tup (u.2.map V.int))
theorem Tus.same {H H':Hp}{ts:List (Addr×List Int)}(h:Tus H ts)(s:aK H H'):Tus H' ts:=λu hu=>s _ _ (h u hu)
theorem Tus.bu {n:Nat}{p:Addr}{H H':Hp}{ts:List (Addr×List Int)}(h:Tus H ts)(b:Bu n p H H')(hp:Pt n H p):Tus H' ts:=λu hu=>b.tup hp (h u hu)
theorem Tus.snoc {H:Hp}{ts:List (Addr×List Int)}(h:Tus H ts){u:Addr×List Int}(e:H u.1=some (.tup (u.2.map V.int))):Tus H (ts++[u]):=λv hv=>by
 rcases wC.mp hv with z | z
 ·exact h v z
 ·rw[wx] at z;subst z;exact e
variable  {X:Cx}
open PySem PySem.Spec PyProof.Rows
section
variable  {X:Cx}
def oE (K:wc):R2:=λx y H Q=>∃a b xs ys,x = .ref a/\y = .ref b/\SqT K H a xs/\SqT K H b ys/\xs.length+ys.length<=wo/\(xs=[]->Q (.ref b) H)/\(ys=[]->Q (.ref a) H)/\(xs≠[]->ys≠[]->∀p,H p=none->Q (.ref p) (upd H p (.tup (xs++ys))))
theorem rC:OpR X (binaryOp .Add) (oE X.K):=by
 intro pins s σ H x y v u Q I rx ry h
 obtain ⟨a,b,xs,ys,rfl,rfl,ha,hb,hz,q1,q2,q3⟩:=h
 by_cases hx:xs=[]
 ·cases rx
  cases ry
  obtain ⟨its,r1,p1,_⟩:=I.tuple ha
  obtain ⟨its2,r2,p2,_⟩:=I.tuple hb
  obtain ⟨⟨c1,d1,da1,s1⟩,o1,k1,n1,g1⟩:=id p1
  obtain ⟨⟨c2,d2,da2,s2⟩,o2,k2,n2,g2⟩:=id p2
  simp only at k1 g1 k2 g2
  subst k1 g1 k2 g2
  have e0:its=[]:=r1.iB.mpr hx
  exact B4 ⟨_,o1,rfl⟩ ⟨_,o2,rfl⟩ BD CJ Am Ac (zZ _ _)
   (tuple_addW0 a b its.toArray its2.toArray n1 n2 d1 d2 s1 s2 (by simp[e0])) ⟨o1,o2,⟨.ref b,H,I,rfl,q1 hx⟩⟩
 ·exact sH pins s σ H _ _ v u Q I rx ry ⟨a,b,xs,ys,rfl,rfl,ha,hb,hx,hz,q2,λhy=>q3 hx hy⟩
theorem oE.one {K:wc}{H:Hp}{Q:VK}{a b:Addr}{xs ys:List V}(ha:H a=some (.tup xs))(hb:H b=some (.tup ys))(hz:xs.length+ys.length<=wo)(q:∀p H',aK H H'->H' p=some (.tup (xs++ys))->Q (.ref p) H'):oE K (.ref a) (.ref b) H Q:=by
 refine ⟨a,b,xs,ys,rfl,rfl,SqT.of ha,SqT.of hb,hz,λz =>?_,λz =>?_,λ_ _ p hp=>q p _ (ab hp _) ae⟩
 ·subst z;exact q b H (aK.refl _) hb
 ·subst z;exact q a H (aK.refl _) (by rw[xM];exact ha)
end
open PySem PySem.Spec PyProof.Rows
theorem kj {α β:Type}{f:α -> Option β}{g:α -> β}:∀{l:List α},(∀k∈l,f k=some (g k))->l.filterMap f=l.map g
 | [],_=>rfl
 | x :: l,h=>by
  rw[zW,h x wY,xv,kj λk hk=>h k (xf _ hk)]
open PySem PySem.Spec PyProof.Rows
section
variable  {X:Cx}
theorem tI {K:wc}{tg l:Expr}{tl:TE}(hl:PE X l tl)(h:X.K=K:=by rfl):PI X tg l (vD K tl):=by subst h;exact cW hl
theorem p8 {K:wc}(hc:X.calm=true)(h:X.K=K:=by rfl):bL X (.builtin "all") (λxs H Q=>∃(p:Addr) (bs:List Bool),xs=[.ref p]/\SqL K H p (bs.map V.bl)/\Q (.bl (bs.all id)) H):=by subst h;exact eV hc
end
open PySem PySem.Spec PyProof.Rows
section
variable  {X:Cx}
theorem p9:vB X (λo i H Q=>∃(p:Addr) (xs:List V) (k:Nat) (v:V),o = .ref p/\i = .int k/\SqL X.K H p xs/\xs[k]? = some v/\Q v H):=by
 intro pins s σ H o i ov iv Q I ro ri h
 obtain ⟨p,xs,k,v,rfl,rfl,hq,he,q⟩:=h
 cases (show ov=wN p from ro)
 obtain ⟨t,rfl⟩:=(show ∃t,iv=xZ k t from ri)
 obtain ⟨its,r,pl,hz⟩:=I.list hq
 obtain ⟨w,ew,rw'⟩:=r.get he
 have hk:k<xs.length:=(wF.mp he).1
 have hn:=iT
 exact wpAny_getItem_list pl.isList (by lia) (by lia) (by simpa using ew) ⟨v,H,I,rw',q⟩
theorem qa (hc:X.calm=true):bL X (.builtin "min") (λxs H Q=>∃(a:Addr) (ns:List Int),xs=[.ref a]/\SqL X.K H a (ns.map V.int)/\ns≠[]/\∀M:Int,M∈ns->(∀b∈ns,M<=b)->Q (.int M) H):=by
 intro pins s σ H xs us Q I r h
 obtain ⟨a,ns,rfl,hS,hne,q⟩:=h
 obtain ⟨u,rfl,ru⟩:=vals1 r
 cases (show u=wN a from ru)
 obtain ⟨its,r1,p1,_⟩:=I.list hS
 obtain ⟨ps,e2,e3⟩:=cq (intsAre_of r1)
 have ei:its.toArray=yL ps.toArray:=by rw[e2];simp[yL]
 have hl:s.heap.IsList a (yL ps.toArray):=by rw[<- ei];exact p1.isList
 have hz:ps.toArray.size=ns.length:=by rw[wk, <- e3,wd]
 have hp:0<ns.length:=xW.mpr hne
 have ht:ps.toArray.toList.map (·.1)=ns:=e3
 refine min_intList (I.ok.hd hc) hl (by lia) λv h' tk hv k =>?_
 rw[hz] at hv
 obtain ⟨t,rfl⟩:=BA hv
 obtain ⟨h1,h2⟩:=argBest_lt (numAt ps.toArray) (ns.length-1)
 refine ⟨.int _,H,I.kept k,⟨_,rfl⟩,q _ ?_ λb hb =>?_⟩
 ·rw[Ai,ht];exact nr (by lia)
 ·obtain ⟨j,hj,rfl⟩:=nv hb
  have:=h2 j (by lia)
  rw[Ai,Ai,ht] at this
  rw[Ai,ht]
  exact this
def EqS (K:wc)(H:Hp):Nat->V->V->Prop
 | 0,x,y=>(∃i,x = .int i/\y = .int i)\/(∃i,x = .str i/\y = .str i)\/∃a,x = .ref a/\y = .ref a
 | n+1,x,y=>(∃i,x = .int i/\y = .int i)\/(∃i,x = .str i/\y = .str i)\/(∃a,x = .ref a/\y = .ref a)\/∃a b xs ys,x = .ref a/\y = .ref b/\((SqT K H a xs/\SqT K H b ys)\/(SqL K H a xs/\SqL K H b ys))/\Paired (EqS K H n) xs ys
theorem dH {K:wc}{H:Hp}{n:Nat}{s:wu}{A:xF}{xs ys:List V}{us vs:List wm}(p:Paired (EqS K H n) xs ys)(r1:Vals xs us)(r2:Vals ys vs)
  (ih:∀x y u v,EqS K H n x y->RelV x u->RelV y v->zk A s u v true):∀j (h1:j<us.toArray.size) (h2:j<vs.toArray.size),zk A s us.toArray[j] vs.toArray[j] true:=λj h1 h2=>by
 rw[wk] at h1 h2
 have l1:=r1.length
 have l2:=r2.length
 have e1:xs[j]? = some xs[j]:=wz (by omega)
 have e2:ys[j]? = some ys[j]:=wz (by omega)
 obtain ⟨u,g1,q1⟩:=r1.get e1
 obtain ⟨v,g2,q2⟩:=r2.get e2
 have f1:us.toArray[j]=u:=by simp[wF] at g1;obtain ⟨_,g⟩:=g1;simpa using g
 have f2:vs.toArray[j]=v:=by simp[wF] at g2;obtain ⟨_,g⟩:=g2;simpa using g
 rw[f1,f2]
 exact ih _ _ u v (gS p e1 e2) q1 q2
theorem gA {A:xF}{s:wu}{x y:V}{u v:wm}(h:(∃i,x = .int i/\y = .int i)\/(∃i,x = .str i/\y = .str i)\/∃a,x = .ref a/\y = .ref a)(ru:RelV x u)(rv:RelV y v):zk A s u v true:=by
 rcases h with ⟨i,rfl,rfl⟩ | ⟨i,rfl,rfl⟩ | ⟨a,rfl,rfl⟩
 ·obtain ⟨t,rfl⟩:=(show ∃t,u=xZ i t from ru)
  obtain ⟨t',rfl⟩:=(show ∃t,v=xZ i t from rv)
  have:=zC (A:=A) (s:=s) i t i t'
  rw[beq_self_eq_true] at this
  exact this
 ·obtain ⟨t,rfl⟩:=(show ∃t,u=Value.str i t from ru)
  obtain ⟨t',rfl⟩:=(show ∃t,v=Value.str i t from rv)
  have:=Cu (A:=A) (s:=s) i t i t'
  rw[show (i == i)=true by simp] at this
  exact this
 ·cases (show u=wN a from ru)
  cases (show v=wN a from rv)
  exact zG _
theorem kP {pins:List (Addr×Obj)}{σ:St}{H:Hp}{s:wu}(I:Inv X pins σ H s):∀(n:Nat) (A:xF) (x y:V) (u v:wm),A.units+n<cLine->EqS X.K H n x y->RelV x u->RelV y v->zk A s u v true
 | 0,A,x,y,u,v,_,h,ru,rv=>gA h ru rv
 | n+1,A,x,y,u,v,hA,h,ru,rv=>by
  rcases h with h | h | h | ⟨a,b,xs,ys,rfl,rfl,hs,p⟩
  ·exact gA (.inl h) ru rv
  ·exact gA (.inr (.inl h)) ru rv
  ·exact gA (.inr (.inr h)) ru rv
  ·cases (show u=wN a from ru)
   cases (show v=wN b from rv)
   by_cases hab:a=b
   ·subst hab;exact zG _
   refine Cw hab ?_
   have ih:∀x y u v,EqS X.K H n x y->RelV x u->RelV y v->zk A.in1 s u v true:=λx y u v h1 h2 h3=>kP I n A.in1 x y u v (by show A.units+1+n<cLine;lia) h1 h2 h3
   have pl:=zq p
   rcases hs with ⟨h1,h2⟩ | ⟨h1,h2⟩
   ·obtain ⟨its,r1,p1,_⟩:=I.tuple h1
    obtain ⟨its2,r2,p2,_⟩:=I.tuple h2
    have q:=CT (e:=λ_=>true) (show s.heap.IsTuple a its.toArray from p1) (show s.heap.IsTuple b its2.toArray from p2) (by lia) (dH p r1 r2 ih)
    have ez:its.toArray.size=its2.toArray.size:=by rw[wk,wk, <- r1.length, <- r2.length,pl]
    rw[all_true,ez,beq_self_eq_true] at q
    exact q
   ·obtain ⟨its,r1,p1,_⟩:=I.list h1
    obtain ⟨its2,r2,p2,_⟩:=I.list h2
    have q:=Av (e:=λ_=>true) p1.isList p2.isList (by rw[wk,wk, <- r1.length, <- r2.length,pl]) (by lia) (dH p r1 r2 ih)
    rw[all_true] at q
    exact q
theorem tJ {k:Nat}(hr:cy k X.A):OpR X (xY .NotEq) (λx y H Q=>∃a b xs ys,x = .ref a/\y = .ref b/\SqT X.K H a xs/\SqT X.K H b ys/\Paired (EqS X.K H 20) xs ys/\Q (.bl false) H):=by
 intro pins s σ H x y v u Q I rx ry h
 obtain ⟨a,b,xs,ys,rfl,rfl,h1,h2,p,q⟩:=h
 cases (show v=wN a from rx)
 cases (show u=wN b from ry)
 obtain ⟨its,r1,p1,_⟩:=I.tuple h1
 obtain ⟨its2,r2,p2,_⟩:=I.tuple h2
 have l1:=r1.length
 have l2:=r2.length
 have pl:=zq p
 have hu:=hr.un
 have hu1:X.A.units<cLine:=by lia
 have R:=Cn (A:=X.A) (e:=λ_=>true) (show s.heap.IsTuple a its.toArray from p1) (show s.heap.IsTuple b its2.toArray from p2) hu1 (dH p r1 r2 λx y u v h1 h2 h3=>kP I 20 _ x y u v (by show X.A.units+1+_<cLine;lia) h1 h2 h3)
 rw[wk,wk, <- l1, <- l2,pl,BR,beq_self_eq_true,all_true] at R
 exact R _ _ _ _ ⟨.bl false,H,I,rfl,q⟩
end
end L2
namespace L2.RvT
open PySem PyProof.Rows
open Sem (wp)
theorem qb:Slot "reversed" "__init__" "object.__init__" :=
 .of (owner := "object") (n := "__init__") (by rw[typeLookup_type,builtinLookup_eq_fast];kernel_rfl) (by decide +kernel) (by decide +kernel) (by decide +kernel)
  (by first | exact .inl (by decide +kernel) | exact .inr (by decide +kernel)) (by rw[Bh];kernel_rfl)
theorem called:TypeCalled "reversed" "reversed.__new__" "object.__init__" :=
 ⟨by decide +kernel,by decide +kernel,⟨_,_,Cd⟩,madeBy_type Cd PySem.F.lookup_reversed_new (by decide +kernel),by decide +kernel,by rw[Bh];kernel_rfl,qb⟩
section
variable  {prog:wL}{w:xg}{A:xF}{E:wm->wu->Prop}{s:wu}
end
section
variable  {prog:wL}{w:xg}{A:xF}{E:wm->wu->Prop}{s:wu}
end
end L2.RvT
namespace L2
open PySem PySem.Spec PyProof.Rows
section
variable  {X:Cx}
theorem op_eqLI {k:Nat}(hr:cy k X.A):OpR X (xY .Eq) (λx y H Q=>∃(a b:Addr) (ns ms:List Int),x = .ref a/\y = .ref b/\SqL X.K H a (ns.map V.int)/\SqL X.K H b (ms.map V.int)/\Q (.bl (decide (ns=ms))) H):=by
 intro pins s σ H x y v u Q I rx ry h
 obtain ⟨a,b,ns,ms,rfl,rfl,h1,h2,q⟩:=h
 cases (show v=wN a from rx)
 cases (show u=wN b from ry)
 obtain ⟨its,r1,⟨⟨c1,d1,da1,sl1⟩,n1,e1,k1,_,k3⟩,_⟩:=I.list h1
 obtain ⟨its2,r2,⟨⟨c2,d2,da2,sl2⟩,n2,e2,g1,_,g3⟩,_⟩:=I.list h2
 simp only at k1 k3 g1 g3
 subst k1 k3 g1 g3
 have l1:=r1.length
 have l2:=r2.length
 rw[wd] at l1 l2
 have hu:=hr.un
 have hu1:X.A.units<cLine:=by lia
 by_cases hl:ns.length=ms.length
 ·refine zB (op :=.Eq) ⟨_,e1,rfl⟩ ⟨_,e2,rfl⟩ Cg BW (BC _ _) (SeqAt.list_eqAt a b its.toArray its2.toArray n1 n2 d1 d2 sl1 sl2 (by rw[wk,wk];lia) (vb ns ms)) ⟨e1,e2,?_,?_⟩ hu1
  ·intro j h1 h2
   obtain ⟨t1,g1⟩:=intAt r1 h1
   obtain ⟨t2,g2⟩:=intAt r2 h2
   rw[g1,g2]
   exact zC _ t1 _ t2
  ·have ez:its.toArray.size=ns.length:=by rw[wk];lia
   rw[ez,rA hl]
   exact ⟨(λz=>nomatch z),⟨.bl _,H,I,rfl,q⟩⟩
 ·have ne:ns≠ms:=λz=>hl (by rw[z])
  rw[decide_eq_false ne] at q
  refine zB (op :=.Eq) ⟨_,e1,rfl⟩ ⟨_,e2,rfl⟩ Cg BW (BC _ _) (Bw a b its.toArray its2.toArray n1 n2 d1 d2 sl1 sl2 (by simp;lia)) ⟨e1,e2,?_⟩ hu1
  exact ⟨(λz=>nomatch z),⟨.bl false,H,I,rfl,q⟩⟩
theorem vc {k:Nat}(hr:cy k X.A):OpR X (xY .Eq) (λx y H Q=>∃a b xs ys,x = .ref a/\y = .ref b/\SqL X.K H a xs/\SqL X.K H b ys/\((xs.length≠ys.length/\Q (.bl false) H)\/(Paired (eX X.K H 20) xs ys/\Q (.bl true) H))):=by
 intro pins s σ H x y v u Q I rx ry h
 obtain ⟨a,b,xs,ys,rfl,rfl,h1,h2,h3⟩:=h
 rcases h3 with ⟨ne,q⟩ | ⟨p,q⟩
 ·cases (show v=wN a from rx)
  cases (show u=wN b from ry)
  obtain ⟨its,r1,⟨⟨c1,d1,da1,sl1⟩,n1,e1,k1,_,k3⟩,_⟩:=I.list h1
  obtain ⟨its2,r2,⟨⟨c2,d2,da2,sl2⟩,n2,e2,g1,_,g3⟩,_⟩:=I.list h2
  simp only at k1 k3 g1 g3
  subst k1 k3 g1 g3
  have l1:=r1.length
  have l2:=r2.length
  have hu:=hr.un
  have hu1:X.A.units<cLine:=by lia
  refine zB (op :=.Eq) ⟨_,e1,rfl⟩ ⟨_,e2,rfl⟩ Cg BW (BC _ _) (Bw a b its.toArray its2.toArray n1 n2 d1 d2 sl1 sl2 (by simp;lia)) ⟨e1,e2,?_⟩ hu1
  exact ⟨(λz=>nomatch z),⟨.bl false,H,I,rfl,q⟩⟩
 ·exact tH hr pins s σ H _ _ v u Q I rx ry ⟨a,b,xs,ys,rfl,rfl,h1,h2,p,q⟩
theorem gB:SlR X (λx lo hi H Q=>∃a xs,x = .ref a/\H a=some (.tup xs)/\∀p2 H2,aK H H2->H2 p2=some (.tup (bM xs lo hi))->Q (.ref p2) H2):=by
 intro pins s σ H x v vl vu lo hi sl Q I rx hs pl pu h
 obtain ⟨a,xs,rfl,ep,key⟩:=h
 refine tG pins s σ H _ v vl vu lo hi sl Q I rx hs pl pu ⟨a,xs,rfl,SqT.of ep,λz=>key a H (aK.refl _) ?_,λ_ p2 hp2=>key p2 _ (ab hp2 _) ae⟩
 unfold bM
 rw[z.1,z.2,Ba,Nat.sub_zero,yE]
 exact ep
theorem cZ:OpR X (binaryOp .Add) (λx y H Q=>∃a b xs ys,x = .ref a/\y = .ref b/\H a=some (.tup xs)/\H b=some (.tup ys)/\xs.length+ys.length<=wo/\∀p H',aK H H'->H' p=some (.tup (xs++ys))->Q (.ref p) H'):=by
 intro pins s σ H x y v u Q I rx ry h
 obtain ⟨a,b,xs,ys,rfl,rfl,ha,hb,hz,q⟩:=h
 exact rC pins s σ H _ _ v u Q I rx ry (oE.one ha hb hz q)
end
end L2
namespace L2.MnT
open PySem PyProof.Rows
section
variable  {prog:wL}{w:xg}{A:xF}{E:wm->wu->Prop}{I:Addr}{fp wr:List Addr}{n:Nat}{P:Nat->wm->Prop}{St:Nat->Heap->Prop}
def Cmp (prog:wL)(w:xg)(A:xF)(P:Nat->wm->Prop)(St:Nat->Heap->Prop)(bt:Nat->Nat->Bool):Prop :=
 ∀k i j x y (s:wu) (Q E:wm->wu->Prop),St k s.heap->P i x->P j y->Q (.bool (bt i j)) s->wX (xk prog w) A (richCompare .Lt x y) Q E s
abbrev Bag (S:Addr)(xs:Array wm)(c:Nat)(h:Heap):Prop:=h.get? S=some { cls :=.type "list",dict:=none,data :=.seq xs c,slots := #[] }
abbrev Kept (wr:List Addr)(S:Addr)(h h':Heap):Prop:=∀b o,b∉wr->b≠S->h.get? b=some o->h'.get? b=some o
theorem loop {R:Result->wu->Prop}(W:Walks prog w A.in1 I fp wr n P St){bt:Nat->Nat->Bool}(C:Cmp prog w A.in1 P St bt){S:Addr}(nS:S∉fp):∀(d j:Nat) (s:wu) (best:wm) (c:Nat),n=j+1+d->St (j+1) s.heap->P (argBest bt j) best->Bag S #[best,best] c s.heap →
  (∀v h' tk,P (argBest bt (n-1)) v->Kept wr S s.heap h'->R (.ok (.ret v)) { s with heap:=h',toks:=tk })->BB (xk prog w) A (.builtin "min.loop" ⟨[.ref I,.none,.ref S],[]⟩) R s:=by
 have nw:S∉wr:=λh=>nS (W.sub _ h)
 have nm:(toString "min" ++ toString ".loop" : String) = "min.loop" := by decide
 intro d
 induction d with
 | zero =>
  intro j s best c hn st pb bg hR
  have e:j+1=n:=by lia
  rw[e] at st
  refine yg Ao ?_
  rw[yj yl _]
  show wX _ _ (seqItems? (.ref S) >>= _) _ _ s
  refine wg (Aq bg rfl ?_)
  show wX _ _ (tryCatch (pyNext (.ref I)) _ >>= _) _ _ s
  refine wg (Bi (W.done s _ _ st λh1 tk kp =>?_))
  show wX _ _ (updateSeq S (λ_ => #[]) >>= _) _ _ _
  refine wg ?_
  refine B7 (kp S _ nw bg) rfl (wg (Cp (wA (hR best _ tk (by rw[<- e];exact pb) ?_))))
  exact λb o nb ns eb=>(yk _ _ (zF ns)).trans (kp b o nb eb)
 | succ d ih =>
  intro j s best c hn st pb bg hR
  refine yg Ao ?_
  rw[yj yl _]
  show wX _ _ (seqItems? (.ref S) >>= _) _ _ s
  refine wg (Aq bg rfl ?_)
  show wX _ _ (tryCatch (pyNext (.ref I)) _ >>= _) _ _ s
  refine wg (Bi (W.item (j+1) s _ _ (by lia) st λv h1 tk pv st1 kp =>?_))
  have bg1:=kp S _ nw bg
  show wX _ _ (tryCatch (C3 [v,v] (richCompare .Lt v best >>= _)) _ >>= _) _ _ _
  refine wg (Bi (yi (wg (C (j+1+1) (j+1) (argBest bt j) v best _ _ _ st1 pv pb ?_))))
  refine wg (yi (yh ?_))
  refine wg (Cp (wA ?_))
  by_cases hb:bt (j+1) (argBest bt j)=true
  ·have ea:argBest bt (j+1)=j+1:=by simp only[argBest,hb,if_true]
   rw[hb]
   simp only[if_true]
   refine wg ?_
   refine B7 bg1 rfl (wg (Cp ?_))
   rw[nm]
   refine wA ⟨zx yl _,ih (j+1) _ v _ (by lia) (W.frame _ _ _ st1 λb fb o eb =>?_) (by rw[ea];exact pv) (y8 _ bg1 rfl) λv2 h2 tk2 p2 k2=>hR v2 h2 tk2 p2 λb o nb ns eb=>k2 b o nb ns ?_⟩
   ·exact (yk _ _ (λz:S=b=>nS (z ▸ fb))).trans eb
   ·exact (yk _ _ (zF ns)).trans (kp b o nb eb)
  ·have ea:argBest bt (j+1)=argBest bt j:=by simp only[argBest,hb];rfl
   rw[yU.mpr hb]
   simp only[yx,if_false]
   refine wg (Cp ?_)
   rw[nm]
   exact wA ⟨zx yl _,ih (j+1) _ best c (by lia) st1 (by rw[ea];exact pb) bg1 λv2 h2 tk2 p2 k2=>hR v2 h2 tk2 p2 λb o nb ns eb=>k2 b o nb ns (kp b o nb eb)⟩
theorem first {R:Result->wu->Prop}(W:Walks prog w A.in1 I fp wr n P St){bt:Nat->Nat->Bool}(C:Cmp prog w A.in1 P St bt){S:Addr}(nS:S∉fp)(hn:0<n){s:wu}{c:Nat}(st:St 0 s.heap)(bg:Bag S #[] c s.heap)
  (hR:∀v h' tk,P (argBest bt (n-1)) v->Kept wr S s.heap h'->R (.ok (.ret v)) { s with heap:=h',toks:=tk }):BB (xk prog w) A (.builtin "min.loop" ⟨[.ref I,.none,.ref S],[]⟩) R s:=by
 have nw:S∉wr:=λh=>nS (W.sub _ h)
 have nm:(toString "min" ++ toString ".loop" : String) = "min.loop" := by decide
 refine yg Ao ?_
 rw[yj yl _]
 show wX _ _ (seqItems? (.ref S) >>= _) _ _ s
 refine wg (Aq bg rfl ?_)
 show wX _ _ (tryCatch (pyNext (.ref I)) _ >>= _) _ _ s
 refine wg (Bi (W.item 0 s _ _ hn st λv h1 tk pv st1 kp =>?_))
 have bg1:=kp S _ nw bg
 show wX _ _ (updateSeq S (λ_ => #[v,v]) >>= _) _ _ _
 refine wg ?_
 refine B7 bg1 rfl ?_
 rw[nm]
 refine wA ⟨zx yl _,loop W C nS (n-1) 0 _ v _ (by lia) (W.frame _ _ _ st1 λb fb o eb =>?_) pv (y8 _ bg1 rfl) λv2 h2 tk2 p2 k2=>hR v2 h2 tk2 p2 λb o nb ns eb=>k2 b o nb ns ?_⟩
 ·exact (yk _ _ (λz:S=b=>nS (z ▸ fb))).trans eb
 ·exact (yk _ _ (zF ns)).trans (kp b o nb eb)
def Goes (prog:wL)(w:xg)(A:xF)(Q:wm->wu->Prop)(it:wm)(s:wu):Prop:=∃I fp wr n P St bt,it = .ref I/\Walks prog w A.in1 I fp wr n P St/\St 0 s.heap/\(∀b∈fp,b<s.heap.objs.size)/\0<n/\Cmp prog w A.in1 P St bt ∧
 ∀v h' tk,P (argBest bt (n-1)) v->(∀b o,b∉wr->s.heap.get? b=some o->h'.get? b=some o)->Q v { s with heap:=h',toks:=tk }
theorem call2 {s:wu}{a b:wm}{Q:wm->wu->Prop}(h:wX (xk prog w) A.in1 (pyIter (.ref s.heap.objs.size)) (Goes prog w A Q) E { s with heap:=s.heap.push { cls :=.type "tuple",data :=.seq #[a,b] } }):wX (xk prog w) A (call (.builtin "min") [a,b]) Q E s:=by
 have nm:(toString "min" ++ toString ".loop" : String) = "min.loop" := by decide
 refine call_function_tree PySem.F.kind_min PySem.F.plain_min PySem.F.entry_min (PySem.F.args_min2 _ _) ?_
 show wX _ _ (Builtin.Builtins.bindParams "min" ["key", "default"] 0 ⟨[],[]⟩ >>= _) _ _ s
 refine wg (Dp (a:=[none,none]) rfl ?_)
 show wX _ _ (newTuple [a,b] >>= _) _ _ s
 refine wg (xG ?_)
 refine wg (zi h (λit s2 g =>?_) λ_ _ e=>e)
 obtain ⟨I,fp,wr,n,P,St,bt,rfl,W,st,hf,hn,C,hq⟩:=g
 refine wg (xG ?_)
 rw[nm]
 refine wA ⟨zx yl _,first W C (S:=s2.heap.objs.size) (λhm=>xK _ (hf _ hm)) hn (W.frame _ _ _ st λb _ o e=>we _ e) (wH _ rfl) λv h' tk pv kp =>?_⟩
 exact hq v h' tk pv λb o nb e=>kp b o nb (wV (wJ e)) (we _ e)
theorem best (g:Nat->List Int):∀k,(argBest (λi j=>HT.lexLt (g i) (g j)) k<=k)/\∀j,j<=k->HT.lexLt (g j) (g (argBest (λi j=>HT.lexLt (g i) (g j)) k))=false
 | 0=>⟨wq _,λj hj=>by rw[Nat.le_zero.mp hj];exact Srt.lex_irrefl _⟩
 | k+1=>by
  obtain ⟨l,ih⟩:=best g k
  by_cases hb:HT.lexLt (g (k+1)) (g (argBest (λi j=>HT.lexLt (g i) (g j)) k))=true
  ·have ea:argBest (λi j=>HT.lexLt (g i) (g j)) (k+1)=k+1:=by simp only[argBest,hb,if_true]
   rw[ea]
   refine ⟨wq _,λj hj =>?_⟩
   by_cases e:j=k+1
   ·rw[e];exact Srt.lex_irrefl _
   ·refine yU.mpr λz =>?_
    have:=ih j (by lia)
    rw[Srt.lex_trans _ _ _ z hb] at this
    cases this
  ·have ea:argBest (λi j=>HT.lexLt (g i) (g j)) (k+1)=argBest (λi j=>HT.lexLt (g i) (g j)) k:=by simp only[argBest,hb];rfl
   rw[ea]
   refine ⟨by lia,λj hj =>?_⟩
   by_cases e:j=k+1
   ·rw[e];exact yU.mpr hb
   ·exact ih j (by lia)
end
end L2.MnT
namespace L2
open PySem PySem.Spec PyProof.Rows
section
variable  {X:Cx}
end
open PySem PySem.Spec PyProof.Rows
section
variable  {X:Cx}
theorem nz (hc:X.calm=true):bL X (.builtin "min") (λxs H Q=>∃(a:Addr) (ns:List Int),xs=[.ref a]/\SqT X.K H a (ns.map V.int)/\ns≠[]/\∀M:Int,M∈ns->(∀b∈ns,M<=b)->Q (.int M) H):=by
 intro pins s σ H xs us Q I r h
 obtain ⟨a,ns,rfl,hS,hne,q⟩:=h
 obtain ⟨u,rfl,ru⟩:=vals1 r
 cases (show u=wN a from ru)
 obtain ⟨its,r1,p1,_⟩:=I.tuple hS
 obtain ⟨ps,e2,e3⟩:=cq (intsAre_of r1)
 have ei:its.toArray=yL ps.toArray:=by rw[e2];simp[yL]
 have hT:s.heap.IsTuple a (yL ps.toArray):=by
  obtain ⟨o,ho,hc',n,hd⟩:=p1
  exact ⟨o,ho,hc',n,by rw[<- ei];exact hd⟩
 have hz:ps.toArray.size=ns.length:=by rw[wk, <- e3,wd]
 have hp:0<ns.length:=xW.mpr hne
 have ht:ps.toArray.toList.map (·.1)=ns:=e3
 have hal:a<s.heap.objs.size:=by obtain ⟨o,ho,_⟩:=p1;exact wJ ho
 refine call_min_walk (yB hT ?_)
 refine ⟨_,[_,a],[_],_,_,_,_,rfl,Cm (A:=X.A.in1) (I.ok.hd hc) _ a (wV hal) (yL ps.toArray),⟨⟨_,wH _ rfl,rfl,rfl⟩,hT.push _⟩,λc hc' =>?_,by simp only[yL,xT];lia,CmpOf.ints_lt (numAt ps.toArray) (λ_ _=>BA),λv h' tk hv hk =>?_⟩
 ·show c<(s.heap.push _).objs.size
  rw[yR]
  rcases wZ.mp hc' with rfl | hc'
  ·exact yr _
  ·rw[wx.mp hc'];exact x6 hal
 ·have k:∀b o,s.heap.get? b=some o->h'.get? b=some o:=λb o e=>hk b o (λhm=>by
   have:=wJ e
   rw[wx.mp hm] at this
   exact xK _ this) (we _ e)
  have hsz:(yL ps.toArray).size=ns.length:=by simp only[yL,xT];exact hz
  rw[hsz] at hv
  obtain ⟨t,rfl⟩:=BA hv
  obtain ⟨h1,h2⟩:=argBest_lt (numAt ps.toArray) (ns.length-1)
  refine ⟨.int _,H,I.kept k,⟨_,rfl⟩,q _ ?_ λb hb =>?_⟩
  ·rw[Ai,ht];exact nr (by lia)
  ·obtain ⟨j,hj,rfl⟩:=nv hb
   have:=h2 j (by lia)
   rw[Ai,Ai,ht] at this
   rw[Ai,ht]
   exact this
end
end L2
namespace HT
open PySem PyProof.Rows
section
variable  {prog:wL}{w:xg}{A:xF}{E:wm->wu->Prop}{s:wu}
theorem nA (n:Nat):Builtin.Slice.sliceAdjust none none (-1) (n:Int)=((n:Int)-1, -1):=by
 unfold Builtin.Slice.sliceAdjust
 simp
theorem nB (n:Nat):Builtin.Slice.slicePlaces ((n:Int)-1) (-1) (-1)=n:=by
 unfold Builtin.Slice.slicePlaces
 simp
 lia
theorem gX {sl:Addr}{t:Tok}{n:Nat}{Q:Int×Int×Nat->wu->Prop}(hs:s.heap.IsSliceOf sl .none .none (.int (-1) t))
  (h:Q ((n:Int)-1, -1,n) s):wX (xk prog w) A (Builtin.Slice.sliceApplied (.ref sl) (pure (n:Int))) Q E s:=by
 obtain ⟨os,hos,hcs,hds⟩:=id hs
 unfold Builtin.Slice.sliceApplied Builtin.Slice.sliceFields
 refine wg (wg (zc hos hds (x :=.none) rfl (wg (zc hos hds (x :=.none) rfl (wg (zc hos hds (x :=.int (-1) t) rfl (wA ?_)))))))
 refine wg (slicePart_int ?_)
 show wX _ _ (if ((-1:Int) == 0)=true then _ else _) _ _ s
 rw[if_neg (by decide)]
 refine wg (Bf (wg (Bf (wg (wA ?_)))))
 show wX _ _ (match Builtin.Slice.sliceAdjust none none (-1) (n:Int) with | (lo,hi)=>pure (lo,(-1:Int),Builtin.Slice.slicePlaces lo hi (-1))) _ _ s
 rw[nA n]
 show wX _ _ (pure ((n:Int)-1,(-1:Int),Builtin.Slice.slicePlaces ((n:Int)-1) (-1) (-1))) _ _ s
 rw[nB]
 exact wA h
theorem vX (xs:List wm):((xE xs.length).filterMap λ(m:Nat)=>xs.toArray[(((xs.length:Int)-1)+(m:Int)*(-1)).toNat]?).toArray=xs.reverse.toArray:=by
 congr 1
 have h1:∀k∈xE xs.length,xs.toArray[(((xs.length:Int)-1)+(k:Int)*(-1)).toNat]? = some (xs.reverse.getD k .none):=λk hk=>by
  have hk':=xD.mp hk
  have:(((xs.length:Int)-1)+(k:Int)*(-1)).toNat=xs.length-1-k:=by omega
  rw[this,xC,wD,BX hk',wz (show xs.length-1-k<xs.length by omega)]
  rfl
 rw[L2.kj h1]
 apply Dh
 ·rw[wd,yG,zt]
 ·intro n h2 h3
  rw[List.getElem_map,List.getElem_range,wD,wz h3]
  rfl
theorem gC {t sl:Addr}{its:List wm}{tk:Tok}{Q:wm->wu->Prop}(ht:IsTup s.heap t its.toArray)(hs:s.heap.IsSliceOf sl .none .none (.int (-1) tk))
  (h:Q (.ref s.heap.objs.size) { s with heap:=s.heap.push { cls :=.type "tuple",data :=.seq its.reverse.toArray } })
  (hsz:its.length<=wo):wX (xk prog w) A (getItem (.ref t) (.ref sl)) Q E s:=by
 have htake:sizeOk (.seq its.reverse.toArray):=by
  show its.reverse.toArray.size<=wo
  rw[wk,zt];exact hsz
 obtain ⟨os,hos,hcs,hds⟩:=id hs
 have hTs:s.TypeIs (.ref sl) "slice" :=⟨os,hos,hcs⟩
 unfold getItem
 try with_reducible refine yi ?_
 first | refine wg (wA ?_) | skip
 refine wg (Bo ht.typeIs (by decide) ?_)
 refine wg (yC (name:=Str.ofString "__getitem__") ht.typeIs xu
  (yt xu ht.typeIs entry_tuple_getitem ?_ (A4 _ _)))
 show wX _ _ (Builtin.Tuple.tupleItemsOf (.ref t) >>= _) _ _ s
 refine wg (CK ht ?_)
 refine wg (z9 hTs ?_)
 rw[if_pos (by decide)]
 refine wg (gX hs ?_)
 have hno:¬ (((((its.toArray.size:Nat):Int)-1) == 0 && (-1:Int) == 1 && its.toArray.size == its.toArray.size)=true):=by
  intro q
  rw[xQ,xQ] at q
  have:=q.1.2
  revert this
  decide
 show wX _ _ (if ((((its.toArray.size:Nat):Int)-1) == 0 && (-1:Int) == 1 && its.toArray.size == its.toArray.size)=true then _ else _) _ _ s
 rw[if_neg hno,wk,vX]
 first
  | exact wg (m:=Builtin.Tuple.tupleExact _) (xG (wA ⟨_,rfl,wA h⟩) htake)
  | exact wg (m:=Builtin.Tuple.tupleExact _) (xG (wg (wA (wA ⟨_,rfl,wA h⟩))) htake)
  | exact wg (wg (m:=Builtin.Tuple.tupleExact _) (xG (wA (wA ⟨_,rfl,wA h⟩)) htake))
  | exact wg (wg (m:=Builtin.Tuple.tupleExact _) (xG (wA ⟨_,rfl,wA h⟩) htake))
end
end HT
namespace L2
open PySem PySem.Spec PyProof.Rows
def vY (K:wc)(te:TE):TE:=λσ H Q=>te σ H λx H1=>∃a xs,x = .ref a/\SqT K H1 a xs/\∀p,H1 p=none->Q (.ref p) (upd H1 p (.tup xs.reverse))
theorem tK {X:Cx}{e:Expr}{te:TE}{j:Nat}{p1 p2 p3 pos:Pos}(he:PE X e te):PE X (.Subscript e (.Slice none none (some (.UnaryOp .USub (.Constant (.int 1) j p1) p3)) p2) pos) (vY X.K te):=by
 intro pins s σ H Q I h
 refine Subscript_ (thn (he pins s σ H _ I h) λv s1 ⟨x,H1,I1,r1,q1⟩ =>?_)
 obtain ⟨a,xs,rfl,hx,q⟩:=q1
 cases r1
 refine wpAny_Slice ?_
 rw[CL]
 refine wA (wA ?_)
 rw[evalPart_some]
 have un:PE X (.UnaryOp .USub (.Constant (.int 1) j p1) p3) _:=jT gN ag
 refine thn (un pins s1 σ H1 (λy H'=>y = .int (-1)/\H'=H1) I1 ⟨1,rfl,rfl,rfl⟩) λu s2 ⟨y,H2,I2,r2,ey,eH⟩ =>?_
 subst ey eH
 obtain ⟨t,rfl⟩:=r2
 have I4:Inv X pins σ H2 { s2 with heap:=s2.heap.push { cls :=.type "slice",data :=.fields #[.none,.none,.int (-1) t] } }:=I2.kept (t':=s2.toks) λb ob q=>we _ q
 obtain ⟨its,r,ht,hz⟩:=I4.tuple hx
 have hlen:=r.length
 show wX (xk X.prog X.w) X.A (subscriptTail e (.Slice none none (some (.UnaryOp .USub (.Constant (.int 1) j p1) p3)) p2) (.ref a) (.ref s2.heap.objs.size)) (EP X pins σ Q) X.xe { s2 with heap:=s2.heap.push { cls :=.type "slice",data :=.fields #[.none,.none,.int (-1) t] } }
 refine tail_any (ops:=[.ref a,.ref s2.heap.objs.size]) ht.typeIs xu.lookup ?_ (by with_unfolding_all rfl)
 refine HT.gC ht (Ct ..) ?_ (by lia)
 refine ⟨.ref _,_,I4.laid (t':=s2.toks) (o :=.tup xs.reverse) (λb ob q=>we _ q) (wq _) ?_,rfl,q _ (I4.hok.fresh (wq _))⟩
 exact ⟨by rw[zt];exact hz,_,Vals.reverse r,cV.new _ _⟩
open PySem PySem.Spec PyProof.Rows
section
variable  {X:Cx}
end
theorem nC {X:Cx}{k:Nat}(hr:cy k X.A):OpR X (xY .NotEq) (λx y H Q=>∃(a b:Addr) (xs:List V),x = .ref a/\y = .ref b/\H a=some (.lst xs)/\H b=some (.lst [])/\(xs=[]->Q (.bl false) H)/\(xs≠[]->Q (.bl true) H)):=by
 intro pins s σ H x y v u Q I rx ry h
 obtain ⟨a,b,xs,rfl,rfl,h1,h2,q0,q1⟩:=h
 cases (show v=wN a from rx)
 cases (show u=wN b from ry)
 obtain ⟨i1,r1,p1,_⟩:=I.list (SqL.of (K:=X.K) h1)
 obtain ⟨i2,r2,p2,_⟩:=I.list (SqL.of (K:=X.K) h2)
 have l1:=r1.length
 have l2:=r2.length
 rw[zH] at l2
 have hu:=hr.un
 have hu1:X.A.units<cLine:=by lia
 by_cases c:xs=[]
 ·subst c
  rw[zH] at l1
  have R:=CH (A:=X.A) (e:=λ_=>true) p1.isList p2.isList (by rw[wk,wk];lia) hu1 (λj g1 _=>by rw[wk] at g1;lia)
  rw[wk, <- l1] at R
  exact R _ _ _ _ ⟨.bl false,H,I,rfl,q0 rfl⟩
 ·have:=xW.mpr c
  exact SeqAt.RcNeAt.lists_lengths (A:=X.A) p1.isList p2.isList (by simp;lia) hu1 _ _ _ _ ⟨.bl true,H,I,rfl,q1 c⟩
open PySem PySem.Spec PyProof.Rows
def jK (P:wL)(w:xg)(K:wc)(mg:Str->Option wm)(base:Heap)(k:Nat)(f:Addr)(ps:List Str)(sp:Sp):Prop:=∃fd,bF P w K mg base CX0 k f fd ps sp/\PySem.W.keepIn K (.ref f)=true/\Binds K fd ps []
theorem Cal.val {P:wL}{w:xg}{K:wc}{mg:Str->Option wm}{base:Heap}{k:Nat}{x:Str}{ps:List Str}{sp:Sp}(c:Cal P w K mg base k x ps sp):∃f,mg x=some (.ref f)/\jK P w K mg base k f ps sp:=by
 obtain ⟨f,fd,F,m,kp,b⟩:=c.ex
 exact ⟨f,m,fd,F,kp,b⟩
def vd (X:Cx)(k:Nat)(tf:TE)(t:TA):TE:=λσ H Q=>tf σ H λx H1=>∃f ps sp,x = .ref f/\jK X.prog X.w X.K X.mg X.base k f ps sp/\t σ H1 λvs H2=>sp vs H2 Q E0
theorem ma {X:Cx}(k:Nat){j:Nat}{x:Str}{e:Expr}{es:List Expr}{tf:TE}{t:TA}{p pos:Pos}(hv:PE X (.Name x p) tf)(hr:cy j X.A)(hj:k<=j)(ha:PA X (e :: es) t)
  (he:xO (e :: es) X.env=(false,eval e X.env) :: xO es X.env:=by rfl) (hpl:(Bp pos (xO es X.env)).any (·.1)=false:=by rfl) :
  PE X (.Call (.Name x p) (e :: es) [] pos) (vd X k tf t):=by
 intro pins s σ H Q I h
 refine zE (thn (hv pins s σ H _ I h) λv s1 p1 =>?_)
 obtain ⟨_,H1,I1,r1,f,ps,sp,rfl,C,q⟩:=p1
 cases r1
 obtain ⟨fd,F,kp,b⟩:=C
 refine Cs (h₀:=X.base) I1.ok.mod.kin kp (thn (ha pos pins s1 σ H1 _ I1 q) λus s2 p2 =>?_) he hpl
 obtain ⟨vs,H2,I2,r,q2⟩:=p2
 exact ⟨I2.kIn,qG F (hr.mono hj) b .nil uc I2 r (by rw[xM];exact q2)⟩
open PySem PySem.Spec PyProof.Rows
section
variable  {X:Cx}
theorem cP {k:Nat}(hr:cy k X.A):OpR X (xY .Eq) (λx y H Q=>∃a b xs ys,x = .ref a/\y = .ref b/\SqL X.K H a xs/\SqL X.K H b ys/\((xs.length≠ys.length/\Q (.bl false) H)\/(Paired (EqS X.K H 20) xs ys/\Q (.bl true) H))):=by
 intro pins s σ H x y v u Q I rx ry h
 obtain ⟨a,b,xs,ys,rfl,rfl,h1,h2,h3⟩:=h
 rcases h3 with d | ⟨p,q⟩
 ·exact vc hr pins s σ H _ _ v u Q I rx ry ⟨a,b,xs,ys,rfl,rfl,h1,h2,.inl d⟩
 cases (show v=wN a from rx)
 cases (show u=wN b from ry)
 obtain ⟨us,r1,p1,_⟩:=I.list h1
 obtain ⟨vs,r2,p2,_⟩:=I.list h2
 have un:=hr.un
 have R:=Av (A:=X.A) (e:=λ_=>true) p1.isList p2.isList (by rw[wk,wk, <- r1.length, <- r2.length,zq p]) (by lia) (dH p r1 r2 λx y u v z1 z2 z3=>kP I 20 _ x y u v (by show X.A.units+1+_<cLine;lia) z1 z2 z3)
 rw[all_true] at R
 exact R _ _ _ _ ⟨.bl true,H,I,rfl,q⟩
theorem kQ {k:Nat}(hr:cy k X.A):OpR X (xY .NotEq) (λx y H Q=>∃a b xs ys,x = .ref a/\y = .ref b/\SqL X.K H a xs/\SqL X.K H b ys/\Paired (EqS X.K H 20) xs ys/\Q (.bl false) H):=by
 intro pins s σ H x y v u Q I rx ry h
 obtain ⟨a,b,xs,ys,rfl,rfl,h1,h2,p,q⟩:=h
 cases (show v=wN a from rx)
 cases (show u=wN b from ry)
 obtain ⟨us,r1,p1,_⟩:=I.list h1
 obtain ⟨vs,r2,p2,_⟩:=I.list h2
 have un:=hr.un
 have R:=CH (A:=X.A) (e:=λ_=>true) p1.isList p2.isList (by rw[wk,wk, <- r1.length, <- r2.length,zq p]) (by lia) (dH p r1 r2 λx y u v z1 z2 z3=>kP I 20 _ x y u v (by show X.A.units+1+_<cLine;lia) z1 z2 z3)
 rw[all_true] at R
 exact R _ _ _ _ ⟨.bl false,H,I,rfl,q⟩
def vZ (K:wc):R2:=λx y H Q=>∃p xs i v,x = .ref p/\y = .int i/\(SqL K H p xs\/SqT K H p xs)/\atI xs i=some v/\Q v H
theorem ve:IxR X (vZ X.K):=by
 intro value slice pins s σ H x y v u Q I rx ry h hs
 obtain ⟨p,xs,i,z,e1,e2,hq | hq,he,q⟩:=h
 ·exact bC value slice pins s σ H x y v u Q I rx ry ⟨p,xs,i,z,e1,e2,hq,he,q⟩ hs
 ·exact av value slice pins s σ H x y v u Q I rx ry ⟨p,xs,i,z,e1,e2,hq,he,q⟩ hs
theorem oF {K:wc}(h:X.K=K:=by rfl):IxR X (vZ K):=by subst h;exact ve
theorem qc:OpR X (xY .NotIn) (λx y H Q=>∃(i n:Int) (a:Addr),x = .int i/\y = .ref a/\H a=some (.rng 0 n)/\Q (.bl (!decide (0<=i/\i<n))) H):=by
  intro pins s σ H x y v u Q I rx ry h
  obtain ⟨i,n,a,rfl,rfl,ea,q⟩:=h
  obtain ⟨tk,rfl⟩:=rx
  cases (show u=wN a from ry)
  obtain ⟨t1,t2,t3,ho⟩:=I.hok a _ ea
  have hT:s.TypeIs (.ref a) "range" :=⟨_,ho,rfl⟩
  have hp:(Builtin.Range.rangePlace? 0 n 1 i).isSome=decide (0<=i/\i<n):=by
    unfold Builtin.Range.rangePlace?
    by_cases a0:0<=i <;> by_cases b0:i<n <;> simp[a0,b0,Int.emod_one]
  show wX _ _ (do return Value.bool (!(← contains (.ref a) (.int i tk)))) _ _ s
  refine wg ?_
  unfold contains
  try with_reducible refine yi ?_
  refine wg (wpAny_specialOf hT Au.lookup ?_)
  show wX _ _ (if (some (Value.builtin "range.__contains__") == some yW)=true then _ else _) _ _ s
  rw[if_neg (by rw[beq_builtin_none];exact wG)]
  refine wg (wpAny_callSpecialUnlessNone?_slot (name:=Str.ofString "__contains__") hT Au
    (yt Au hT F.entry_range_contains ?_ (F.args_range_contains_2 _ _)))
  rw[<- hp] at q
  obtain ⟨hq,g,d,tks,os⟩:=s
  wp_walk
  exact ⟨_,rfl,yh (wA ⟨.bl _,H,I,rfl,q⟩)⟩
end
end L2
namespace L2.MnW
open PySem PyProof.Rows PySem.SeqAt PySem.MeetsSeq PySem.MeetsSeq2 PySem.MeetsSeq3
open PySem.AutoSeq1 (wpAny_loadPart')
def ob (c:String)(dd:Option Addr)(xs:Array wm)(n:Nat)(sl:Array (Option wm)):Obj:={ cls :=.type c,dict:=dd,data :=.seq xs n,slots:=sl }
section
variable  {prog:wL}{w:xg}{A:xF}{s:wu}
end
end L2.MnW
namespace L2
open PySem PySem.Spec PyProof.Rows
end L2
namespace L2.MnR
open PySem PyProof.Rows PySem.SeqAt PySem.MeetsSeq PySem.MeetsSeq2 PySem.MeetsSeq3
open PySem.AutoSeq1 (wpAny_loadPart')
abbrev Rs:=Option Int
def its:Rs->List V
 | none=>[.str "never"]
 | some n=>[.str "least",.int n]
def lt:Rs->Rs->Bool
 | some a,some b=>decide (a<b)
 | some _,none=>true
 | none,_=>false
theorem less (l b:Addr)(xs ys:Array wm)(n k:Nat)(dd ee:Option Addr)(sl tl:Array (Option wm))(x y:Rs)(hx:Vals (its x) xs.toList)(hy:Vals (its y) ys.toList) :
  Meets (Builtin.«tuple.__lt__» ⟨[.ref l,.ref b],[]⟩) (λA R s=>s.heap.get? l=some (MnW.ob "tuple" dd xs n sl)/\s.heap.get? b=some (MnW.ob "tuple" ee ys k tl)/\R (.ok (.ret (.bool (lt x y)))) s) :=
 .of_wp λprog w A R s h=>by
  obtain ⟨hp,g,d,tk,os⟩:=s
  obtain ⟨hl,hb,h⟩:=h
  unfold MnW.ob at hl hb
  obtain ⟨xs⟩:=xs
  obtain ⟨ys⟩:=ys
  have f2:=AutoSeq1.sub_tuple_tuple
  have es:∀(a:Str) (t:Tok) (b:Str) (u:Tok),EqAt A.in1 ⟨hp,g,d,tk,os⟩ (.str a t) (.str b u) (a == b):=λa t b u=>EqAt.str_str a t b u
  have ls':∀(a:Str) (t:Tok) (b:Str) (u:Tok) (E Q:wm->wu->Prop),Q (.bool (a.cps.toList<b.cps.toList)) ⟨hp,g,d,tk,os⟩->wX (xk prog w) A.in1 (richCompare .Lt (.str a t) (.str b u)) Q E ⟨hp,g,d,tk,os⟩:=λa t b u E Q h=>lt_str h
  cases x with
  | none =>
   obtain ⟨u1,e1,r1⟩:=vals1 hx
   obtain ⟨t1,rfl⟩:=r1
   cases (show xs=[Value.str "never" t1] from e1)
   cases y with
   | none =>
    obtain ⟨u2,e2,r2⟩:=vals1 hy
    obtain ⟨t2,rfl⟩:=r2
    cases (show ys=[Value.str "never" t2] from e2)
    have e0:=es "never" t1 "never" t2
    rw[show (("never" : Str) == "never")=true by decide +kernel] at e0
    wp_walk using wpAny_loadPart' hl,wpAny_loadPart' hb,AA _ (λrest q s'=>q.1=none/\s'=⟨hp,g,d,tk,os⟩/\(rest=[(Value.str "never" t1,Value.str "never" t2)]\/rest=[])) _
    case turn =>
     rintro ⟨y,x⟩ rest q s' ⟨q0,rfl,z | z⟩
     ·injection z with z1 z2
      injection z1 with z3 z4
      subst z3 z4 z2
      refine wg (e0 prog w _ _ ?_)
      wp_walk
      exact ⟨rfl,rfl,.inr rfl⟩
     ·cases z
    case fin =>
     rintro ⟨b1,b2⟩ s' ⟨q0,rfl,z⟩
     simp only at q0
     subst q0
     wp_walk
     exact ⟨_,rfl,h⟩
    case h=>exact ⟨rfl,rfl,.inl rfl⟩
   | some m =>
    obtain ⟨u2,u3,e2,r2,r3⟩:=vals2 hy
    obtain ⟨t2,rfl⟩:=r2
    obtain ⟨t3,rfl⟩:=r3
    cases (show ys=[Value.str "least" t2,xZ m t3] from e2)
    have e0:=es "never" t1 "least" t2
    rw[show (("never" : Str) == "least")=false by decide +kernel] at e0
    wp_walk using wpAny_loadPart' hl,wpAny_loadPart' hb,AA _ (λrest q s'=>q.1=none/\s'=⟨hp,g,d,tk,os⟩/\(rest=[(Value.str "never" t1,Value.str "least" t2)])) _
    case turn =>
     rintro ⟨y,x⟩ rest q s' ⟨q0,rfl,z⟩
     injection z with z1 z2
     injection z1 with z3 z4
     subst z3 z4 z2
     refine wg (e0 prog w _ _ ?_)
     have lt:=ls' "never" t1 "least" t2
     wp_walk using lt
     exact ⟨_,rfl,h⟩
    case fin =>
     rintro ⟨b1,b2⟩ s' ⟨q0,rfl,z⟩
     cases z
    case h=>exact ⟨rfl,rfl,rfl⟩
  | some n =>
   obtain ⟨u1,u0,e1,r1,r0⟩:=vals2 hx
   obtain ⟨t1,rfl⟩:=r1
   obtain ⟨t0,rfl⟩:=r0
   cases (show xs=[Value.str "least" t1,xZ n t0] from e1)
   cases y with
   | none =>
    obtain ⟨u2,e2,r2⟩:=vals1 hy
    obtain ⟨t2,rfl⟩:=r2
    cases (show ys=[Value.str "never" t2] from e2)
    have e0:=es "least" t1 "never" t2
    rw[show (("least" : Str) == "never")=false by decide +kernel] at e0
    wp_walk using wpAny_loadPart' hl,wpAny_loadPart' hb,AA _ (λrest q s'=>q.1=none/\s'=⟨hp,g,d,tk,os⟩/\(rest=[(Value.str "least" t1,Value.str "never" t2)])) _
    case turn =>
     rintro ⟨y,x⟩ rest q s' ⟨q0,rfl,z⟩
     injection z with z1 z2
     injection z1 with z3 z4
     subst z3 z4 z2
     refine wg (e0 prog w _ _ ?_)
     have lt:=ls' "least" t1 "never" t2
     wp_walk using lt
     exact ⟨_,rfl,h⟩
    case fin =>
     rintro ⟨b1,b2⟩ s' ⟨q0,rfl,z⟩
     cases z
    case h=>exact ⟨rfl,rfl,rfl⟩
   | some m =>
    obtain ⟨u2,u3,e2,r2,r3⟩:=vals2 hy
    obtain ⟨t2,rfl⟩:=r2
    obtain ⟨t3,rfl⟩:=r3
    cases (show ys=[Value.str "least" t2,xZ m t3] from e2)
    have e0:=es "least" t1 "least" t2
    rw[show (("least" : Str) == "least")=true by decide +kernel] at e0
    have e3:EqAt A.in1 ⟨hp,g,d,tk,os⟩ (.int n t0) (.int m t3) (n == m):=EqAt.int_int n t0 m t3
    have li:=HT.lH A.in1 ⟨hp,g,d,tk,os⟩ n t0 m t3 prog w
    wp_walk using wpAny_loadPart' hl,wpAny_loadPart' hb,AA _ (λrest q s'=>q.1=none/\s'=⟨hp,g,d,tk,os⟩/\(rest=[(Value.str "least" t1,Value.str "least" t2),(.int n t0,.int m t3)]\/rest=[(xZ n t0,xZ m t3)]\/(n=m/\rest=[]))) _
    case turn =>
     rintro ⟨y,x⟩ rest q s' ⟨q0,rfl,z | z | z⟩
     ·injection z with z1 z2
      injection z1 with z3 z4
      subst z3 z4 z2
      refine wg (e0 prog w _ _ ?_)
      wp_walk
      exact ⟨rfl,rfl,.inr (.inl rfl)⟩
     ·injection z with z1 z2
      injection z1 with z3 z4
      subst z3 z4 z2
      refine wg (e3 prog w _ _ ?_)
      by_cases c:n=m
      ·rw[show (n == m)=true by simpa using c]
       wp_walk
       exact ⟨rfl,rfl,.inr (.inr ⟨c,rfl⟩)⟩
      ·rw[show (n == m)=false by simpa using c]
       wp_walk using li
       exact ⟨_,rfl,h⟩
     ·cases z.2
    case fin =>
     rintro ⟨b1,b2⟩ s' ⟨q0,rfl,z | z | z⟩
     ·cases z
     ·cases z
     ·simp only at q0
      subst q0
      have h:R (.ok (.ret (.bool (decide (n<m))))) ⟨hp,g,d,tk,os⟩:=h
      rw[decide_eq_false (show ¬ n<m by lia)] at h
      wp_walk
      exact ⟨_,rfl,h⟩
    case h=>exact ⟨rfl,rfl,.inl rfl⟩
def TR (h:Heap)(t:Addr×Rs):Prop:=∃xs n dd sl,h.get? t.1=some (MnW.ob "tuple" dd xs n sl)/\Vals (its t.2) xs.toList
theorem TR.at {h h':Heap}{t:Addr×Rs}(x:TR h t)(e:∀o,h.get? t.1=some o->h'.get? t.1=some o):TR h' t:=let ⟨xs,n,dd,sl,g,v⟩:=x;⟨xs,n,dd,sl,e _ g,v⟩
section
variable  {prog:wL}{w:xg}{A:xF}{I:Addr}{fp wr:List Addr}{n:Nat}{P:Nat->wm->Prop}{St:Nat->Heap->Prop}
theorem more (W:Walks prog w A I fp wr n P St)(ts:List (Addr×Rs))(nw:∀t∈ts,t.1∉wr):Walks prog w A I (fp++ts.map (·.1)) wr n P (λi h=>St i h/\∀t∈ts,TR h t) where
 sub:=λb hb=>yb _ (W.sub b hb)
 frame:=λi h h' x hk=>⟨W.frame i h h' x.1 λb hb o e=>hk b (yb _ hb) o e,λt ht=>(x.2 t ht).at (hk t.1 (xb _ (zY (f:=(·.1)) ht)))⟩
 item:=λi s Q E hi x hQ=>W.item i s Q E hi x.1 λv h' tk pv st' kp=>hQ v h' tk pv ⟨st',λt ht=>(x.2 t ht).at λo=>kp t.1 o (nw t ht)⟩ kp
 done:=λs Q E x hQ=>W.done s Q E x.1 hQ
 self:=λi s Q E x hQ=>W.self i s Q E x.1 hQ
theorem cmp (ts:List (Addr×Rs))(hu:A.units<cLine)(hP:∀i v,P i v->∃t,ts[i]? = some t/\v = .ref t.1):MnT.Cmp prog w A P (λi h=>St i h/\∀t∈ts,TR h t) (λi j=>lt (ts.getD i (0,none)).2 (ts.getD j (0,none)).2):=by
 intro k i j x y s Q E st hx hy h
 obtain ⟨t,et,rfl⟩:=hP i x hx
 obtain ⟨u,eu,rfl⟩:=hP j y hy
 obtain ⟨xs,n,dd,sl,g,v⟩:=st.2 t (wR et)
 obtain ⟨ys,k',ee,tl,g',v'⟩:=st.2 u (wR eu)
 dsimp only at h
 rw[wD,wD,et,eu] at h
 exact zB (op :=.Lt) ⟨_,g,rfl⟩ ⟨_,g',rfl⟩ PySem.F.slot_tuple_lt PySem.F.entry_tuple_lt (PySem.F.args_tuple_lt_2 _ _) (less t.1 u.1 xs ys n k' dd ee sl tl t.2 u.2 v v')
  ⟨g,g',show Value.bool _≠Value.notImplemented/\Q _ s from ⟨(λx=>nomatch x),h⟩⟩ hu
end
end L2.MnR
namespace L2
open PySem PySem.Spec PyProof.Rows
theorem nD {X:Cx}(hc:X.calm=true)(hu:X.A.units+8<cLine):bL X (.builtin "min") (λxs H Q=>∃(a b:Addr) (x y:MnR.Rs),xs=[.ref a,.ref b]/\SqT X.K H a (MnR.its x)/\SqT X.K H b (MnR.its y)/\(MnR.lt y x=true->Q (.ref b) H)/\(MnR.lt y x=false->Q (.ref a) H)):=by
 intro pins s σ H xs us Q I r h
 obtain ⟨a,b,x,y,rfl,ha,hb,q1,q2⟩:=h
 obtain ⟨u,v,rfl,ru,rv⟩:=vals2 r
 cases (show u=wN a from ru)
 cases (show v=wN b from rv)
 have TRs:∀t∈[(a,x),(b,y)],MnR.TR s.heap t:=λt ht=>by
  have one:∀{c:Addr} {z:MnR.Rs},SqT X.K H c (MnR.its z)->MnR.TR s.heap (c,z):=λ{c z} hz=>by
   obtain ⟨i2,r2,⟨⟨c1,d1,k1,s1⟩,g1,e1,n1,f1⟩,_⟩:=I.tuple hz
   simp only at e1 f1
   subst e1 f1
   exact ⟨_,n1,d1,s1,g1,r2⟩
  rcases wZ.mp ht with rfl | ht
  ·exact one ha
  ·rw[wx.mp ht];exact one hb
 have hlt:∀t∈[(a,x),(b,y)],t.1<s.heap.objs.size:=λt ht=>by
  obtain ⟨_,_,_,_,g,_⟩:=TRs t ht
  exact wJ g
 have hT:(s.heap.push { cls :=.type "tuple",data :=.seq #[.ref a,.ref b] }).IsTuple s.heap.objs.size #[.ref a,.ref b]:=⟨_,wH _ rfl,rfl,0,rfl⟩
 have hz:(s.heap.push { cls :=.type "tuple",data :=.seq #[.ref a,.ref b] }).objs.size=s.heap.objs.size+1:=yR ..
 have at_:∀(i:Nat) (v:wm),(#[.ref a,.ref b]:Array wm)[i]? = some v->∃t:Addr×MnR.Rs,[(a,x),(b,y)][i]? = some t/\v=wN t.1:=λi v hv=>by
  match i,hv with
  | 0,hv=>exact ⟨_,rfl,(xt hv).symm⟩
  | 1,hv=>exact ⟨_,rfl,(xt hv).symm⟩
  | i+2,hv=>simp at hv
 refine MnT.call2 (yB hT ?_)
 refine ⟨_,_,_,_,_,_,_,rfl,MnR.more (Cm (A:=X.A.in1) (I.ok.hd hc) _ s.heap.objs.size (by rw[hz];exact wV (yr _)) #[.ref a,.ref b]) [(a,x),(b,y)] (λt ht hm =>?_),⟨⟨⟨_,wH _ rfl,rfl,rfl⟩,hT.push _⟩,λt ht=>(TRs t ht).at λo e=>we _ (we _ e)⟩,λc hc' =>?_,Nat.zero_lt_two,MnR.cmp [(a,x),(b,y)] ?_ at_,λv h' tk pv kp =>?_⟩
 ·have:=hlt t ht
  rw[wx.mp hm,hz] at this
  exact xK _ (zN this)
 ·show c<((s.heap.push _).push _).objs.size
  rw[yR,hz]
  rcases wC.mp hc' with hc' | hc'
  ·rcases wZ.mp hc' with rfl | hc'
   ·rw[hz];exact yr _
   ·rw[wx.mp hc'];exact x6 (yr _)
  ·obtain ⟨t,ht,rfl⟩:=yv.mp hc'
   exact x6 (x6 (hlt t ht))
 ·show X.A.units+_<cLine
  lia
 ·have kept:∀b o,s.heap.get? b=some o->h'.get? b=some o:=λb o e=>kp b o (λhm=>by
   have:=wJ e
   rw[wx.mp hm,hz] at this
   exact xK _ (zN this)) (we _ (we _ e))
  by_cases z:MnR.lt y x=true
  ·have e:argBest (λi j=>MnR.lt ([(a,x),(b,y)].getD i (0,none)).2 ([(a,x),(b,y)].getD j (0,none)).2) 1=1:=by
    show (if MnR.lt y x=true then 1 else 0)=1
    rw[if_pos z]
   rw[show (#[wN a,wN b]:Array wm).size-1=1 from rfl,e] at pv
   have pv:=(xt pv).symm
   exact ⟨.ref b,H,I.kept kept,pv,q1 z⟩
  ·have e:argBest (λi j=>MnR.lt ([(a,x),(b,y)].getD i (0,none)).2 ([(a,x),(b,y)].getD j (0,none)).2) 1=0:=by
    show (if MnR.lt y x=true then 1 else 0)=0
    rw[if_neg z]
   rw[show (#[wN a,wN b]:Array wm).size-1=1 from rfl,e] at pv
   have pv:=(xt pv).symm
   exact ⟨.ref a,H,I.kept kept,pv,q2 (yU.mpr z)⟩
open PySem PySem.Spec PyProof.Rows
def bR (K:wc)(x:Str)(st:Stmt):Prop:=∃(f:Addr) (od an:Option Addr) (sl:Array (Option wm)) (oc kV dc pm cd ct:wm),xP K xw x=some (some (.ref f))/\K.lookup f=some ⟨oc,od,.func (PySem.W.fnOf x x (cM st) (cD st) (aB st) .none kV dc pm an cd ct),sl⟩/\PySem.W.codeIn K cd x=true/\PySem.W.keepIn K (.ref f)=true
theorem bR.mk {K:wc}{x:Str}{st:Stmt}{f:Addr}{od an:Option Addr}{sl:Array (Option wm)}{oc kV dc pm cd ct:wm}(a:xP K xw x=some (some (.ref f)))(l:K.lookup f=some ⟨oc,od,.func (PySem.W.fnOf x x (cM st) (cD st) (aB st) .none kV dc pm an cd ct),sl⟩)(c:PySem.W.codeIn K cd x=true)(k:PySem.W.keepIn K (.ref f)=true):bR K x st:=⟨_,_,_,_,_,_,_,_,_,_,a,l,c,k⟩
theorem bR.cal {K:wc}{x:Str}{st:Stmt}(hf:bR K x st)(P:wL)(w:xg)(base:Heap){h:Heap}{mg:Str->Option wm}(X:K.In h)(G:h.Ns xw mg){lv:Nat}{ps:List Str}{sp:Sp}(ok:∀{f:Addr} {fd:xB},Fun K x x st f fd->bF P w K mg base CX0 lv f fd ps sp)
  (hb:∀(kV doc pm:wm) (an:Option Addr) (cdv ct:wm) (us:List wm),us.length=ps.length->bindArgs (PySem.W.fnOf x x (cM st) (cD st) (aB st) .none kV doc pm an cdv ct) ⟨us,[]⟩=pure (ps.zip us)):Cal P w K mg base lv x ps sp:=by
 obtain ⟨f,od,an,sl,oc,kV,dc,pm,cd,ct,a,l,c,k⟩:=hf
 have F:=mU l c k
 exact ⟨_,_,ok F,Bx X G a,k,F.binds hb⟩
open PySem PySem.Spec PyProof.Rows
theorem bR.jh {K:wc}{x:Str}{st:Stmt}(hf:bR K x st)(P:wL)(w:xg)(base:Heap){h:Heap}{mg:Str->Option wm}(X:K.In h)(G:h.Ns xw mg){ps:List Str}(d:Nat){sp:Nat->Sp}(h0:∀vs H Q E,¬ sp 0 vs H Q E)
  (ok:∀n,Cal P w K mg base (d+n) x ps (sp n)->∀{f:Addr} {fd:xB},Fun K x x st f fd->bF P w K mg base CX0 (d+n+1) f fd ps (sp (n+1)))
  (hb:∀(kV doc pm:wm) (an:Option Addr) (cdv ct:wm) (us:List wm),us.length=ps.length->bindArgs (PySem.W.fnOf x x (cM st) (cD st) (aB st) .none kV doc pm an cdv ct) ⟨us,[]⟩=pure (ps.zip us)):∀n,Cal P w K mg base (d+n) x ps (sp n):=by
 obtain ⟨f,od,an,sl,oc,kV,dc,pm,cd,ct,a,l,c,k⟩:=hf
 have F:=mU l c k
 intro n
 induction n with
 | zero=>exact ⟨_,_,⟨λvs H Q E z=>absurd z (h0 _ _ _ _),λA outer s H args us vs Q E hr he hb hv hs=>absurd hs (h0 _ _ _ _)⟩,Bx X G a,k,F.binds hb⟩
 | succ n ih=>exact ⟨_,_,ok n ih F,Bx X G a,k,F.binds hb⟩
open PySem PySem.Spec PyProof.Rows
section
variable  {X:Cx}
theorem nE (hc:X.calm=true):bL X (.builtin "max") (λxs H Q=>∃(a:Addr) (ns:List Int),xs=[.ref a]/\SqT X.K H a (ns.map V.int)/\ns≠[]/\∀M:Int,M∈ns->(∀b∈ns,b<=M)->Q (.int M) H):=by
 intro pins s σ H xs us Q I r h
 obtain ⟨a,ns,rfl,hS,hne,q⟩:=h
 obtain ⟨u,rfl,ru⟩:=vals1 r
 cases (show u=wN a from ru)
 obtain ⟨its,r1,p1,_⟩:=I.tuple hS
 obtain ⟨ps,e2,e3⟩:=cq (intsAre_of r1)
 have ei:its.toArray=yL ps.toArray:=by rw[e2];simp[yL]
 have hT:s.heap.IsTuple a (yL ps.toArray):=by
  obtain ⟨o,ho,hc',n,hd⟩:=p1
  exact ⟨o,ho,hc',n,by rw[<- ei];exact hd⟩
 have hp:0<ns.length:=xW.mpr hne
 have ht:ps.toArray.toList.map (·.1)=ns:=e3
 have hsz:(yL ps.toArray).size=ns.length:=by
  simp only[yL,xT]
  rw[wk, <- e3,wd]
 have hal:a<s.heap.objs.size:=by obtain ⟨o,ho,_⟩:=p1;exact wJ ho
 refine call_max_walk (yB hT ?_)
 refine ⟨_,[_,a],[_],_,_,_,_,rfl,Cm (A:=X.A.in1) (I.ok.hd hc) _ a (wV hal) (yL ps.toArray),⟨⟨_,wH _ rfl,rfl,rfl⟩,hT.push _⟩,λc hm =>?_,by lia,CmpOf.ints_gt (numAt ps.toArray) (λ_ _=>BA),λv h' tk hv hk =>?_⟩
 ·show c<(s.heap.push _).objs.size
  rw[yR]
  rcases wZ.mp hm with z | z
  ·rw[z];exact yr _
  ·rw[wx.mp z];exact x6 hal
 have old:∀b o,s.heap.get? b=some o->h'.get? b=some o:=λb o e=>by
  refine hk b o (λhm =>?_) (we _ e)
  have l:=wJ e
  rw[wx.mp hm] at l
  exact xK _ l
 rw[hsz] at hv
 obtain ⟨t,rfl⟩:=BA hv
 obtain ⟨h1,h2⟩:=argBest_gt (numAt ps.toArray) (ns.length-1)
 refine ⟨.int _,H,I.kept old,⟨_,rfl⟩,q _ ?_ λb hb =>?_⟩
 ·rw[Ai,ht];exact nr (by lia)
 ·obtain ⟨j,hj,rfl⟩:=nv hb
  have:=h2 j (by lia)
  rw[Ai,Ai,ht] at this
  rw[Ai,ht]
  exact this
def ItR (K:wc)(a:Addr)(n:Nat):It :=
 ⟨λi H=>i<n/\∃xs,SqL K H a xs/\xs.length=n,λi H x H'=>H'=H/\∀xs,SqL K H a xs->xs[n-1-i]? = some x,λi _=>i=n⟩
theorem rD {P:wL}{w:xg}{K:wc}{tg:Expr}(a it:Addr)(n:Nat):Turn P w K tg (ItR K a n) [it] it (λi h=>i<=n/\h.IsRevIter it a ((n:Int)-1-i)) where
 mem:=by simp
 obj:=λi h st b hb=>by
  rw[wx.mp hb]
  obtain ⟨_,o,e,c,d⟩:=st
  exact ⟨o,e,λv z=>by rw[d] at z;cases z⟩
 keep:=λi h h' st k=>⟨st.1,st.2.at λo e=>k it (by simp) o e⟩
 item:=by
  intro X hP hw hK hc i pins s σ H E I hf st hg
  subst hP hw hK
  obtain ⟨hi,xs,hq,hx⟩:=hg
  obtain ⟨its,rv,p,hz⟩:=I.list hq
  obtain ⟨x,ex⟩:∃x,xs[n-1-i]? = some x:=⟨xs[n-1-i]'(by omega),wz _⟩
  obtain ⟨u,hu,ru⟩:=rv.get ex
  obtain ⟨f0,f1,f2,f3,f4,f5⟩:=hf it (by simp)
  have st':=st.2
  rw[show (n:Int)-1-i=((n-1-i:Nat):Int) by omega] at st'
  refine wpAny_pyNext_rev_item st' p.isList (x:=u) (by simpa using hu) λh' sn sb =>?_
  have I1:Inv X pins σ H { s with heap:=h' }:=I.turned (t':=s.toks) (λb o hb e=>(sb.2 b hb).trans e) f0 f1 f3 f4 f5
  obtain ⟨o,e,c,d⟩:=id sn
  refine ⟨u,rfl,nY (s:={ s with heap:=h' }) e c d (by decide) ⟨x,H,I1,ru,⟨rfl,λys hy=>by rw[I.iP hy hq];exact ex⟩,⟨hi,?_⟩,λb hb=>(hf b hb).1⟩⟩
  rw[show (n:Int)-1-((i+1:Nat):Int)=((n-1-i:Nat):Int)-1 by omega]
  exact sn
 done:=by
  intro X hP hw hK hc i pins s σ H E I hf st hg
  subst hP hw hK
  have hg:i=n:=hg
  obtain ⟨f0,f1,f2,f3,f4,f5⟩:=hf it (by simp)
  have st':=st.2
  rw[show (n:Int)-1-i = -1 by omega] at st'
  exact wpAny_pyNext_rev_end (I.ok.hd hc) st' λh' eb=>⟨rfl,I.turned (t':=s.toks) (λb o hb e=>eb b o hb e) f0 f1 f3 f4 f5⟩
 self:=λ_ _ _ _ _ st h=>Cf st.2 h
def iRev (K:wc)(tl:TE):TI:=λσ H R=>tl σ H λx H1=>∃a xs,x = .ref a/\SqL K H1 a xs/\R (ItR K a xs.length) H1
theorem vf {tg e:Expr}{te:TE}{p2 pos2:Pos}(hg2:Gl X "reversed")(hm2:X.mg "reversed" = none)(he:PE X e te)
  (hs2:xO [e] X.env=(false,eval e X.env) :: xO [] X.env:=by rfl) (hp2:(Bp pos2 (xO [] X.env)).any (·.1)=false:=by rfl) :
  PI X tg (.Call (.Name "reversed" p2) [e] [] pos2) (iRev X.K te):=by
 intro pins s σ H R I h
 refine zE (fO I hg2 hm2 l9 ?_ (by decide) (by decide))
 refine yw (thn ((aa he af hs2) pos2 pins s σ H (λvs H1=>match vs with | [x]=>∃a xs,x = .ref a/\SqL X.K H1 a xs/\R (ItR X.K a xs.length) H1 | _=>False) I h) λus s1 ⟨vs,H1,I1,r1,q1⟩ =>?_) hs2 hp2
 match vs,q1 with
 | [x],q1 =>
  obtain ⟨l,xs,rfl,hx,q⟩:=q1
  obtain ⟨u,rfl,ru⟩:=vals1 r1
  cases (show u=wN l from ru)
  obtain ⟨its,r,hl,hz⟩:=I1.list hx
  have ll:=r.length
  refine call_reversed_list hl.isList ?_
  have st:(s1.heap.push (revObj l ((its.toArray.size:Int)-1))).IsRevIter s1.heap.objs.size l ((xs.length:Int)-1-(0:Nat)):=⟨_,wH _ rfl,rfl,by rw[wk, <- ll];show Data.fields #[_,DE ((xs.length:Int)-1)]=Data.fields #[_,DE ((xs.length:Int)-1-(0:Nat))];rw[show (xs.length:Int)-1-(0:Nat)=(xs.length:Int)-1 by omega]⟩
  refine Cf st ?_
  refine ⟨s1.heap.objs.size,[s1.heap.objs.size],_,_,H1,rfl,I1.kept (t':=s1.toks) (λb o e=>we _ e),rD l _ xs.length,⟨xH _,st⟩,λb hb =>?_,q⟩
  rw[wx.mp hb]
  exact I1.ph (wq _) (I1.hok.fresh (wq _))
end
theorem tL {K:wc}{a:Addr}{xs:List V}{g:TG}{tb:TS}{D:Ends}{σ:St}{H:Hp}(Pv:Nat->St->Hp->Prop)(h0:Pv 0 σ H)(hl:∀i σ H,i<=xs.length->Pv i σ H->SqL K H a xs)
  (hs:∀i x σ H,xs.reverse[i]? = some x->Pv i σ H->g x σ H λσ2 H2=>tb { D with nx:=Pv (i+1),ct:=Pv (i+1),bk:=D.nx } σ2 H2) (hd:∀σ H,Pv xs.length σ H->D.nx σ H):qN (ItR K a xs.length) g tb D σ H:=by
 refine ⟨λi m σ H=>m=xs.length-i/\i<=xs.length/\Pv i σ H,⟨xs.length,by simp,xH _,h0⟩,?_⟩
 rintro i m σ H ⟨rfl,hi,p⟩
 have q:=hl i σ H hi p
 by_cases c:i<xs.length
 ·refine .inr ⟨⟨c,xs,q,rfl⟩,Pv (i+1),λσ' H' p'=>⟨xs.length-(i+1),by lia,rfl,c,p'⟩,λx H' y =>?_⟩
  obtain ⟨e,y⟩:=y
  subst e
  refine hs i x σ _ ?_ p
  rw[BX c]
  exact y xs q
 ·have e:i=xs.length:=by lia
  subst e
  exact .inl ⟨rfl,hd σ H p⟩
open PySem PySem.Spec PyProof.Rows
theorem qd {X:Cx}(hh:X.A.handled=none):bL X (.builtin "sum") (λxs H Q=>∃(p:Addr) (ns:List Int),xs=[.ref p]/\SqL X.K H p (ns.map V.int)/\Q (.int ns.sum) H):=by
 intro pins s σ H xs us Q I r h
 obtain ⟨p,ns,rfl,hp,q⟩:=h
 obtain ⟨u,rfl,ru⟩:=vals1 r
 cases (show u=wN p from ru)
 obtain ⟨its,r1,pl,_⟩:=I.list hp
 obtain ⟨zs,e2,e3⟩:=cq (intsAre_of r1)
 have ei:its.toArray=yL zs.toArray:=by rw[e2];simp[yL]
 have il:s.heap.IsList p (yL zs.toArray):=by rw[<- ei];exact pl.isList
 refine sum_intListG hh (xs:=zs.toArray) il λh' tk t' k =>?_
 rw[preSum_eq,yd (by simp),e3]
 exact ⟨.int _,H,I.kept k,⟨_,rfl⟩,q⟩
end L2
set_option maxHeartbeats 800000
namespace K31
open PySem L2
def top (i:Nat):Stmt:=PySem.Challenge.pw_ringfell_k31_trees_judged.main.body.getD i (.Pass ⟨0,0,0,0⟩)
abbrev rE:Stmt:=top 1
abbrev ji:Stmt:=top 2
abbrev kR:Stmt:=top 4
abbrev kS:Stmt:=top 6
abbrev fT:Stmt:=top 7
abbrev jj:Stmt:=top 8
abbrev fe:Stmt:=top 9
abbrev dX:Stmt:=top 10
abbrev fU:Stmt:=top 11
abbrev fV:Stmt:=top 12
abbrev nF:Stmt:=top 14
abbrev nG:Stmt:=top 15
abbrev kT:Stmt:=top 16
abbrev rF:Stmt:=top 17
abbrev gY:Stmt:=top 18
abbrev nH:Stmt:=top 19
abbrev kU:Stmt:=top 20
abbrev jk:Stmt:=top 21
abbrev kW:Stmt:=top 22
abbrev nI:Stmt:=top 23
abbrev kX:Stmt:=top 24
abbrev nJ:Stmt:=top 25
abbrev nK:Stmt:=top 26
abbrev kY:Stmt:=top 27
abbrev dY:Stmt:=top 28
abbrev jl:Stmt:=top 29
abbrev jm:Stmt:=top 30
abbrev nL:Stmt:=top 31
abbrev nM:Stmt:=top 32
abbrev qe:Stmt:=top 33
structure Blt (mg:Str->Option wm):Prop where
 b_all:mg "all" = none
 b_any:mg "any" = none
 b_bool:mg "bool" = none
 b_divmod:mg "divmod" = none
 b_enumerate:mg "enumerate" = none
 b_int:mg "int" = none
 b_isinstance:mg "isinstance" = none
 b_len:mg "len" = none
 b_list:mg "list" = none
 b_max:mg "max" = none
 b_min:mg "min" = none
 b_range:mg "range" = none
 b_reversed:mg "reversed" = none
 b_set:mg "set" = none
 b_sorted:mg "sorted" = none
 b_sum:mg "sum" = none
 b_tuple:mg "tuple" = none
theorem jq:xJ "all" = some (.builtin "all"):=by decide +kernel
theorem kZ:xJ "any" = some (.builtin "any"):=by decide +kernel
theorem tM:xJ "bool" = some (.type "bool"):=by decide +kernel
theorem qf:xJ "divmod" = some (.builtin "divmod"):=by decide +kernel
theorem rG:xJ "int" = some (.type "int"):=by decide +kernel
theorem dy:xJ "isinstance" = some (.builtin "isinstance"):=by decide +kernel
theorem bS:xJ "len" = some (.builtin "len"):=by decide +kernel
theorem iE:xJ "list" = some (.type "list"):=by decide +kernel
theorem js:xJ "max" = some (.builtin "max"):=by decide +kernel
theorem dZ:xJ "min" = some (.builtin "min"):=by decide +kernel
theorem me:xJ "range" = some (.type "range"):=by decide +kernel
theorem rH:xJ "set" = some (.type "set"):=by decide +kernel
theorem kn:xJ "sorted" = some (.builtin "sorted"):=by decide +kernel
theorem jt:xJ "sum" = some (.builtin "sum"):=by decide +kernel
theorem da:xJ "tuple" = some (.type "tuple"):=by decide +kernel
theorem hu8 {A:xF}{k:Nat}(hr:cy k A):A.units+8<cLine:=AX (AJ (by decide:8<=64) _) hr.units
abbrev v5:Stmt:=rE
abbrev rJ:Stmt:=ji
structure Wb (H:Hp)(r:Addr)(m:Int)(ts:List (Addr×List Int)):Prop where
 at':∃t,H r=some (.tup [.int m,.ref t])/\H t=some (.tup (ts.map λu =>.ref u.1))
 tup:∀u∈ts,H u.1=some (.tup (u.2.map V.int))
 pr:∀u∈ts,∃a b:Int,u.2=[a,b]/\0<=a/\a<=b/\b<m
 len:ts.length<=200
theorem Wb.tp {H H':Hp}{r:Addr}{m:Int}{ts:List (Addr×List Int)}(h:Wb H r m ts)(t:Tp H H'):Wb H' r m ts :=
 let ⟨p,e1,e2⟩:=h.at'
 ⟨⟨p,t _ _ e1,t _ _ e2⟩,λu hu=>t _ _ (h.tup u hu),h.pr,h.len⟩
theorem Wb.same {H H':Hp}{r:Addr}{m:Int}{ts:List (Addr×List Int)}(h:Wb H r m ts)(s:aK H H'):Wb H' r m ts:=h.tp s.tp
theorem take_snoc {α β:Type}{f:α -> β}{l:List α}{i:Nat}{x:α}(e:l[i]? = some x):(l.take (i+1)).map f=(l.take i).map f++[f x]:=by
 rw[yS,e,wB];rfl
section
variable  {P:wL}{w:xg}{K:wc}{mg:Str->Option wm}{base:Heap}{f:Addr}{fd:xB}
end
section
variable  {P:wL}{w:xg}{K:wc}{mg:Str->Option wm}{base:Heap}{f:Addr}{fd:xB}
end
section
variable  {P:wL}{w:xg}{K:wc}{mg:Str->Option wm}{base:Heap}{f:Addr}{fd:xB}
end
section
variable  {P:wL}{w:xg}{K:wc}{mg:Str->Option wm}{base:Heap}{f:Addr}{fd:xB}
end
def Ok (m:Nat)(ns:List (List Int)):Prop:=∀p∈ns,∃a b:Int,p=[a,b]/\0<=a/\a<=b/\b<m
def rgI (m:Nat):List Int:=(xE m).map λi:Nat=>(i:Int)
theorem tN {m:Nat}{v:Int}:v∈rgI m↔0<=v/\v<m:=by
 unfold rgI
 rw[yv]
 constructor
 ·rintro ⟨i,hi,rfl⟩
  rw[xD] at hi
  lia
 ·intro h
  exact ⟨v.toNat,xD.mpr (by lia),by lia⟩
theorem rK {R:List Int}{m:Nat}(nd:R.Nodup)(h:∀v∈R,0<=v/\v<m):R.length<=m:=by
 have:=zp nd (l₂:=rgI m) λv hv=>tN.mpr (h v hv)
 unfold rgI at this
 rw[wd,yG] at this
 exact this
section
variable  {P:wL}{w:xg}{K:wc}{mg:Str->Option wm}{base:Heap}{f T:Addr}{fd:xB}
def uh:Sp:=λvs H Q _=>∃a b:Int,vs=[.int a,.int b]/\∀t,H t=none->Q (.ref t) (upd H t (.tup ((nrm a b).map V.int)))
theorem v7:aO ["one", "other"] ["one", "other"] (aB v5):=⟨rfl,rfl,rfl,by decide +kernel,rfl,by decide +kernel,by decide +kernel⟩
theorem v8 (F:Fun K "tie_of" "tie_of" v5 f fd)(mx:mg "max" = none)(mn:mg "min" = none):bF P w K mg base CX0 1 f fd ["one", "other"] uh:=by
 refine F.ok v7 (λvs H Q E h =>?_) (λcdv A outer s H vs Q E hr h =>?_)
 ·obtain ⟨a,b,rfl,_⟩:=h
  rfl
 obtain ⟨a,b,rfl,q⟩:=h
 refine ⟨_,ai (au (aQ (aa (ao (cS rfl) rfl mn dZ (aa (pv 0) (aa (pv 1) af))) (aa (ao (fv rfl) rfl mx js (aa (pv 0) (aa (pv 1) af))) af)))),?_⟩
 exact ⟨_,rfl,_,rfl,_,_,rfl,_,rfl,_,rfl,_,_,rfl,(by show 2<=wo;decide),λt ht=>q t ht⟩
abbrev mf:Sp:=λvs H Q _=>∃(r:Addr) (m a b:Int) (ts:List (Addr×List Int)),vs=[.ref r,.int a,.int b]/\Wb H r m ts/\∀H',aK H H'->Q (.int ((ts.map (·.2)).count (nrm a b):Nat)) H'
@[irreducible] def d7:Sp:=mf
theorem bE {vs:List V}{H:Hp}{Q:VK}{E:XK}:d7 vs H Q E↔mf vs H Q E:=by
 delta d7
 exact yH
theorem tO:aO ["web", "one", "other"] ["web", "one", "other"] (aB rJ):=⟨rfl,rfl,rfl,by decide +kernel,rfl,by decide +kernel,by decide +kernel⟩
theorem tP (F:Fun K "tied_times" "tied_times" rJ f fd)(cT:Cal P w K mg base 1 "tie_of" ["one", "other"] uh):bF P w K mg base CX0 2 f fd ["web", "one", "other"] d7:=by
 refine F.ok tO (λvs H Q E h =>?_) (λcdv A outer s H vs Q E hr h =>?_)
 ·obtain ⟨a,b,c,d,e,rfl,_⟩:=bE.mp h
  rfl
 obtain ⟨r,m,a,b,ts,rfl,W,q⟩:=bE.mp h
 obtain ⟨t,e1,e2⟩:=W.at'
 refine ⟨_,ai (au (rz z7 Bn (jg (hu8 hr)) (ay av (pv 0) ag (λ_ _=>rfl)) (aa (aq cT hr (by decide) rfl (aa (pv 1) (aa (pv 2) af))) af))),?_⟩
 refine ⟨_,rfl,r,_,1,_,rfl,rfl,SqT.of e1,rfl,⟨_,_,rfl,e2⟩,_,rfl,_,rfl,a,b,rfl,λx hx =>?_⟩
 have s1:=ab hx (.tup ((nrm a b).map V.int))
 exact ⟨t,x,ts,nrm a b,rfl,rfl,s1 _ _ e2,λu hu=>s1 _ _ (W.tup u hu),ae,q _ s1⟩
end
theorem rL {a b:Int}(h:a<=b):nrm a b=[a,b]:=by
 unfold nrm mnI mxI
 by_cases c:a=b
 ·subst c;simp
 ·rw[if_neg (by lia),if_pos (by lia)]
theorem gZ {n:Nat}(h:n<=5000):n<wo:=AX h (by decide)
theorem aU {n:Nat}(h:n<=5000):n<=wo:=Ar (gZ h)
theorem iu {ms:List Int}{i:Nat}{x:V}(e:(ms.map V.int)[i]? = some x):∃n,ms[i]? = some n/\x = .int n:=by
 rw[xh] at e
 cases z:ms[i]? with
 | none=>rw[z] at e;cases e
 | some n=>rw[z] at e;exact ⟨n,rfl,(xt e).symm⟩
def lesser (a b:List Int):List Int:=if HT.lexLt b a=true then b else a
section
variable  {P:wL}{w:xg}{K:wc}{mg:Str->Option wm}{base:Heap}{f T:Addr}{fd:xB}
end
def prv (Z:List Int)(k:Nat):Int:=Z.getD (if k=0 then Z.length-1 else k-1) 0
theorem ju {Z:List Int}{k:Nat}(hk:k<Z.length):atI (Z.map V.int) ((k:Int)-1)=some (.int (prv Z k)):=by
 unfold prv
 cases k with
 | zero =>
  have el:Z[Z.length-1]? = some (Z[Z.length-1]'(by lia)):=wz (by lia)
  rw[if_pos rfl,wD,el]
  unfold atI ixN
  rw[wd]
  simp
  rw[if_pos (by lia)]
  simp only[Option.bind_some]
  rw[show (-1+(Z.length:Int)).toNat=Z.length-1 by lia,el];rfl
 | succ k =>
  have el:Z[k]? = some (Z[k]'(by lia)):=wz (by lia)
  rw[if_neg (by lia),wD,show k+1-1=k by lia,el,show ((k+1:Nat):Int)-1=(k:Int) by lia]
  exact fw (by rw[xh,el];rfl)
def IsR (ns:List (List Int))(Z:List Int):Prop:=Z≠[]/\Z.Nodup/\(Z.length=2->2<=ns.count (nrm (Z.getD 0 0) (Z.getD 1 0)))/\(Z.length≠2->∀k,k<Z.length->0<ns.count (nrm (prv Z k) (Z.getD k 0)))
def IsL (m:Nat)(ns:List (List Int))(Z:List Int):Prop:=Z≠[]/\Z.Nodup/\(∀v∈Z,0<=v/\v<m)/\(Z.length<3->Z.length<=ns.count (nrm (Z.getD 0 0) (prv Z 0)))/\(¬ Z.length<3->∀k,k<Z.length->0<ns.count (nrm (prv Z k) (Z.getD k 0)))
theorem k5 {m:Nat}{ns:List (List Int)}(O:Ok m ns){a b:Int}(h:0<ns.count (nrm a b)):(0<=a/\a<m)/\0<=b/\b<m:=by
 obtain ⟨x,y,e,x0,xy,ym⟩:=O _ (List.count_pos_iff.mp h)
 rcases Int.le_total a b with c | c
 ·rw[rL c] at e;cases e;omega
 ·rw[ra,rL c] at e;cases e;omega
theorem oG {m:Nat}{ns:List (List Int)}(O:Ok m ns)(Z:List Int):IsL m ns Z↔IsR ns Z:=by
 unfold IsL IsR
 match Z with
 | []=>simp
 | [a] =>
  have e:prv [a] 0=a:=rfl
  constructor
  ·rintro ⟨h1,h2,h3,h4,h5⟩
   refine ⟨h1,h2,λz=>absurd z (by simp),λ_ k hk =>?_⟩
   have:k=0:=by simp at hk;omega
   subst this
   exact h4 (by simp)
  ·rintro ⟨h1,h2,h3,h4⟩
   have h:=h4 (by simp) 0 (by simp)
   rw[e] at h
   refine ⟨h1,h2,λv hv =>?_,λ_ =>?_,λz=>absurd (by simp) z⟩
   ·have:v=a:=by simpa using hv
    subst this
    exact (k5 O h).1
   ·rw[e];exact h
 | [a,b] =>
  have e:prv [a,b] 0=b:=rfl
  constructor
  ·rintro ⟨h1,h2,h3,h4,h5⟩
   exact ⟨h1,h2,λ_=>h4 (by simp),λz=>absurd rfl z⟩
  ·rintro ⟨h1,h2,h3,h4⟩
   have h:=h3 rfl
   have h':0<ns.count (nrm a b):=wO (by decide) h
   refine ⟨h1,h2,λv hv =>?_,λ_=>h,λz=>absurd (by simp) z⟩
   have:v=a\/v=b:=by simpa using hv
   rcases this with z | z <;> subst z
   ·exact (k5 O h').1
   ·exact (k5 O h').2
 | a :: b :: c :: t =>
  have l3:¬ (a :: b :: c :: t).length<3:=by simp
  have l2:(a :: b :: c :: t).length≠2:=by simp
  generalize hZ:a :: b :: c :: t=Z at l3 l2
  constructor
  ·rintro ⟨h1,h2,h3,h4,h5⟩
   exact ⟨h1,h2,λz=>absurd z l2,λ_=>h5 l3⟩
  ·rintro ⟨h1,h2,h3,h4⟩
   refine ⟨h1,h2,λv hv =>?_,λz=>absurd z l3,λ_=>h4 l2⟩
   obtain ⟨k,hk,e⟩:=List.mem_iff_getElem.mp hv
   have h:=(k5 O (h4 l2 k hk)).2
   rwa [wD,wz hk,e] at h
theorem mh:∀{Z:List Int},¬ Z.Nodup->∃Y:List Int,Y.length<Z.length/\∀k,k∈Z->k∈Y
 | [],h=>absurd List.nodup_nil h
 | x :: t,h=>by
  by_cases c:x∈t
  ·exact ⟨t,yr _,λk hk=>(wZ.mp hk).elim (λz=>z ▸ c) id⟩
  ·obtain ⟨Y,l,s⟩:=mh (Z:=t) λz=>h (Ab.mpr ⟨c,z⟩)
   exact ⟨x :: Y,Nat.succ_lt_succ l,λk hk=>(wZ.mp hk).elim (λz=>z ▸ wY) λz=>xf _ (s k z)⟩
theorem oH {us Z:List Int}(nu:us.Nodup)(h:∀k,k∈us↔k∈Z):us.length=Z.length↔Z.Nodup:=by
 constructor
 ·intro e
  by_cases c:Z.Nodup
  ·exact c
  ·obtain ⟨Y,l,s⟩:=mh c
   have:=zp nu λx hx=>s x ((h x).mp hx)
   lia
 ·intro nd
  exact ((AU nu nd).mpr h).length_eq
theorem iF {a b:Nat}:(V.int (a:Int)=V.int (b:Int))↔a=b:=⟨λz=>by injection z with z;lia,λz=>by rw[z]⟩
theorem getD_at {Z:List Int}{k:Nat}{v:Int}(e:Z[k]? = some v):Z.getD k 0=v:=by rw[wD,e];rfl
abbrev ko:Sp:=λvs H Q _=>∃(r p:Addr) (m:Nat) (ts:List (Addr×List Int)) (Z:List Int),vs=[.ref r,.ref p]/\Wb H r m ts/\H p=some (.tup (Z.map V.int))/\Z.length<=200/\∀(b:Bool) H',aK H H'->(b=true↔IsR (ts.map (·.2)) Z)->Q (.bl b) H'
@[irreducible] def bP:Sp:=ko
theorem cQ {vs:List V}{H:Hp}{Q:VK}{E:XK}:bP vs H Q E↔ko vs H Q E:=by
 delta bP
 exact yH
section
variable  {P:wL}{w:xg}{K:wc}{mg:Str->Option wm}{base:Heap}{f T:Addr}{fd:xB}
theorem jv:aO ["web", "ring", "at", "place"] ["web", "ring"] (aB kR):=⟨rfl,rfl,rfl,by decide +kernel,rfl,by decide +kernel,by decide +kernel⟩
theorem rM (F:Fun K "is_ring" "is_ring" kR f fd)(B:Blt mg)(cTiedTimes:Cal P w K mg base 2 "tied_times" ["web", "one", "other"] d7):bF P w K mg base CX0 3 f fd ["web", "ring"] bP:=by
 refine F.ok jv (λvs H Q E h =>?_) (λcdv A outer s H vs Q E hr h =>?_)
 ·obtain ⟨_,_,_,_,_,rfl,_⟩:=cQ.mp h
  rfl
 obtain ⟨r,p,m,ts,Z,rfl,W,ep,l5,q⟩:=cQ.mp h
 refine ⟨_,(@ah _ _ _ _ _ (@aN _ _ _ _ _ _ _ _ (PW.pt (cg (aj bo (ao aP rfl B.b_len bS (@aa _ _ _ _ _ (pv 1) af rfl)) ag (ax _)) (cu (aj qE (ao iq rfl B.b_len bS (@aa _ _ _ _ _ (bb (ja (w:=w) rfl hr.hd) rfl B.b_set rH (@aa _ _ _ _ _ (pv 1) af rfl)) af rfl)) (ao aP rfl B.b_len bS (@aa _ _ _ _ _ (pv 1) af rfl)) (ax _))))) (@ai _ _ _ (@au _ _ _ _ jQ)) az)
  (@ah _ _ _ _ _ (@aN _ _ _ _ _ _ _ _ (aj bo (ao aP rfl B.b_len bS (@aa _ _ _ _ _ (pv 1) af rfl)) ag (ax _)) (@ai _ _ _ (@au _ _ _ _ (bT oe (aq cTiedTimes hr (by decide) rfl (@aa _ _ _ _ _ (pv 0) (@aa _ _ _ _ _ (@ay _ _ _ _ _ _ _ av (pv 1) ag (λ_ _=>rfl)) (@aa _ _ _ _ _ (@ay _ _ _ _ _ _ _ av (pv 1) ag (λ_ _=>rfl)) af rfl) rfl) rfl)) ag (ax _)))) az)
  (@ah _ _ _ _ _ (@cv _ _ _ _ _ _ _ _ xN rfl (sO rfl B.b_enumerate (@aa _ _ _ _ _ (pv 1) af rfl)) (gL rfl (bH (aD (i:=2) jv.nd rfl (Or.inl rfl)) (bH (aD (i:=3) jv.nd rfl (Or.inl rfl)) fu)))
   (@ai _ _ _ (@aN _ _ _ _ _ _ _ _ (aj bo (aq cTiedTimes hr (by decide) rfl (@aa _ _ _ _ _ (pv 0) (@aa _ _ _ _ _ (@ay _ _ _ _ _ _ _ av (pv 1) (@aE _ _ _ _ _ _ _ _ cY (pv 2) ag) (λ_ _=>rfl)) (@aa _ _ _ _ _ (pv 3) af rfl) rfl) rfl)) ag (ax _)) (@ai _ _ _ (@au _ _ _ _ jQ)) az)) (λ_=>rfl))
  (@ai _ _ _ (@au _ _ _ _ jQ))))),?_⟩
 have lz:(Z.map V.int).length=Z.length:=wd _
 refine ⟨_,rfl,p,_,rfl,.inr (SqT.of ep),rfl,_,rfl,?_⟩
 rw[lz]
 by_cases z0:Z.length=0
 ·rw[decide_eq_true (by rw[z0];rfl)]
  exact aS (aS (q false H (aK.refl _) ⟨λz=>(by cases z),λz=>absurd (Ae.mp z0) z.1⟩))
 rw[decide_eq_false (by intro z;injection z with z;lia)]
 have zn:Z≠[]:=λz=>z0 (by rw[z];rfl)
 refine aT ⟨_,rfl,p,Z,rfl,.inr (SqT.of ep),by lia,λa us ha mu nu lu =>?_⟩
 have ga:=ab ha (jI w a (us.map V.int))
 have sl:=oH nu mu
 refine ⟨a,us.map V.int,rfl,ae,by rw[wd];lia,?_⟩
 generalize upd H a (jI w a (us.map V.int))=H1 at ga
 refine ⟨_,rfl,p,_,rfl,.inr (SqT.of (ga _ _ ep)),rfl,_,rfl,?_⟩
 rw[lz,wd]
 by_cases nd:Z.Nodup
 case neg =>
  rw[decide_eq_false (by rw[iF,sl];exact nd)]
  exact aS (q false _ ga ⟨λz=>(by cases z),λz=>absurd z.2.1 nd⟩)
 refine ud (iF.mpr (sl.mpr nd)) ?_
 have ep1:=ga _ _ ep
 have W1:=W.same ga
 refine ⟨_,rfl,p,_,rfl,.inr (SqT.of ep1),rfl,_,rfl,bN (λz =>?_) λz =>?_⟩
 ·rw[lz,decide_eq_true_iff] at z
  injection z with z
  obtain ⟨x,y,rfl⟩:∃x y,Z=[x,y]:=by
   match Z,z with
   | [x,y],_=>exact ⟨x,y,rfl⟩
  refine ⟨_,rfl,_,rfl,p,_,0,_,rfl,rfl,SqT.of ep1,rfl,_,rfl,p,_,1,_,rfl,rfl,SqT.of ep1,rfl,bE.mpr ⟨r,m,x,y,ts,rfl,W1,λH2 s2=>⟨_,_,rfl,rfl,?_⟩⟩⟩
  refine q _ _ (ga.trans s2) ?_
  rw[decide_eq_true_iff]
  constructor
  ·intro h
   exact ⟨zn,nd,λ_=>by show 2<=List.count (nrm x y) _;lia,λh=>absurd rfl h⟩
  ·intro h
   have:=h.2.2.1 rfl
   have:2<=(ts.map (·.2)).count (nrm x y):=this
   show (2:Int)<=_
   lia
 ·have n2:Z.length≠2:=λh=>z (by rw[lz,h];rfl)
  let W0:Nat->St->Hp->Prop:=λi σ H'=>(∃c2 c3,σ=[some (.ref r),some (.ref p),c2,c3])/\aK H1 H'/\∀k,k<i->0<(ts.map (·.2)).count (nrm (prv Z k) (Z.getD k 0))
  refine ⟨_,rfl,p,rfl,.inr ⟨⟨_,SqT.of ep1⟩,pI (xs:=Z.map V.int) W0 ⟨⟨_,_,rfl⟩,aK.refl _,λk h=>absurd h (BZ k)⟩ (λi σ H' _ h=>SqT.of (h.2.1 _ _ ep1)) ?_ ?_⟩⟩
  ·rintro i x σ H2 tp hx ht ⟨⟨c2,c3,rfl⟩,s2,al⟩
   obtain ⟨v,ev,rfl⟩:=iu hx
   have hi:=(wF.mp ev).1
   have g3:=ab ht (.tup [.int i,.int v])
   have s3:=s2.trans g3
   refine ⟨tp,_,rfl,SqT.of ae,rfl,_,_,rfl,_,_,rfl,rfl,?_⟩
   generalize upd H2 tp (.tup [.int i,.int v])=H3 at g3 s3
   refine ⟨_,rfl,_,rfl,_,rfl,_,_,rfl,rfl,p,_,_,_,rfl,rfl,SqT.of (s3 _ _ ep1),ju hi,_,rfl,bE.mpr ⟨r,m,prv Z i,v,ts,rfl,W1.same s3,λH4 s4=>⟨rfl,_,rfl,bN (λz =>?_) λz =>?_⟩⟩⟩
   ·have z:(ts.map (·.2)).count (nrm (prv Z i) v)=0:=by rw[decide_eq_true_iff] at z;injection z with z;lia
    refine q false _ (ga.trans (s3.trans s4)) ⟨λz=>(by cases z),λh =>?_⟩
    have:=h.2.2.2 n2 i hi
    rw[getD_at ev] at this
    lia
   ·refine ⟨⟨_,_,rfl⟩,s3.trans s4,λk hk =>?_⟩
    by_cases c:k=i
    ·subst c
     rw[getD_at ev]
     have:(ts.map (·.2)).count (nrm (prv Z k) v)≠0:=λh=>z (by rw[h];rfl)
     lia
    ·exact al k (by lia)
  ·rintro σ H2 ⟨⟨c2,c3,rfl⟩,s2,al⟩
   rw[lz] at al
   exact q true _ (ga.trans s2) ⟨λ_=>⟨zn,nd,λh=>absurd h n2,λ_=>al⟩,λ_=>rfl⟩
end
open PySem L2
theorem aW (ps:List Int):(ps.map V.int).all gm=true:=by
 rw[A0,yq]
 intro x _
 rfl
theorem gD {α:Type}{K:wc}{a:Addr}{Z:List Int}{k:Nat}{te:TE}{τ:St}{H:Hp}{Q:VK}(f:Int -> α)(c:α -> V)(e:H a=some (.tup (Z.map V.int)))(lz:Z.length<=5000)(hs:∀v∈Z,∀R:VK,R (c (f v)) H->te (τ.set k (some (.int v))) H R)
  (hd:∀l,H l=none->Q (.ref l) (upd H l (.lst ((Z.map f).map c)))):fM (Itt K a) (dC k) (λ_ H Q=>Q true H) te τ Q H:=by
 have lm:(Z.map V.int).length=Z.length:=wd _
 refine gR (xs:=Z.map V.int) (λi ys H'=>H'=H/\ys=((Z.take i).map f).map c) ⟨rfl,rfl⟩ (by rw[lm];exact aU lz) (λi ys H' _ h=>by rw[h.1];exact SqT.of e) ?_ ?_
 ·rintro i x ys H' hx _ ⟨rfl,rfl⟩ R1 R0 r1 r0
  obtain ⟨v,ev,rfl⟩:=iu hx
  refine aS (hs v (wR ev) _ (r1 _ _ ⟨rfl,?_⟩))
  rw[take_snoc ev,wB];rfl
 ·rintro ys H' _ ⟨rfl,rfl⟩ l hl
  rw[lm,yE]
  exact hd l hl
theorem ui {α:Type}{K:wc}{a:Addr}{Z:List Int}{k:Nat}{te:TE}{τ:St}{H:Hp}{Q:VK}(f:Int -> α)(c:α -> V)(e:H a=some (.lst (Z.map V.int)))(lz:Z.length<=5000)(hs:∀v∈Z,∀R:VK,R (c (f v)) H->te (τ.set k (some (.int v))) H R)
  (hd:∀l,H l=none->Q (.ref l) (upd H l (.lst ((Z.map f).map c)))):fM (Itl K a) (dC k) (λ_ H Q=>Q true H) te τ Q H:=by
 have lm:(Z.map V.int).length=Z.length:=wd _
 refine fR (xs:=Z.map V.int) (λi ys H'=>H'=H/\ys=((Z.take i).map f).map c) ⟨rfl,rfl⟩ (by rw[lm];exact aU lz) (λi ys H' _ h=>by rw[h.1];exact SqL.of e) ?_ ?_
 ·rintro i x ys H' hx _ ⟨rfl,rfl⟩ R1 R0 r1 r0
  obtain ⟨v,ev,rfl⟩:=iu hx
  refine aS (hs v (wR ev) _ (r1 _ _ ⟨rfl,?_⟩))
  rw[take_snoc ev,wB];rfl
 ·rintro ys H' _ ⟨rfl,rfl⟩ l hl
  rw[lm,yE]
  exact hd l hl
inductive Tr where
 | ring (Z:List Int)
 | rows (rs:List (List Int×Int))
 | part (v:Int) (a b:Tr)
def laid (rs:List (List Int×Int))(v:Int):Int:=((rs.filter λr=>decide (v∈r.1)).map (·.2)).sum
def mj (ns:List (List Int))(T Kp:List Int)(r:List Int×Int):Prop:=1<=r.2/\IsR ns r.1/\(∀v∈r.1,v∉T)/\∃v∈r.1,v∉Kp
def cB (m:Nat)(ns:List (List Int))(ws T Kp:List Int)(rs:List (List Int×Int)):Prop:=(∀r∈rs,mj ns T Kp r)/\∀i:Nat,i<m->(i:Int)∉Kp->laid rs i<=ws.getD i 0
def wsum (ws T:List Int):Int:=(T.map λv=>ws.getD v.toNat 0).sum
def ml (x y:MnR.Rs):MnR.Rs:=if MnR.lt y x=true then y else x
def both:Option MnR.Rs->Option MnR.Rs->Option MnR.Rs
 | some x,some y=>some (ml x y)
 | _,_=>none
def Opn (m:Nat)(T Kp:List Int)(v:Int):Prop:=0<=v/\v<m/\v∉T/\v∉Kp
open Classical in
noncomputable def shw (m:Nat)(ns:List (List Int))(ws:List Int):List Int->List Int->Tr->Option MnR.Rs
 | _,Kp,.ring Z=>if IsR ns Z/\∀v∈Z,v∈Kp then some none else none
 | T,Kp,.rows rs=>if cB m ns ws T Kp rs then some (some (wsum ws T+(rs.map (·.2)).sum)) else none
 | T,Kp,.part v a b=>if Opn m T Kp v then both (shw m ns ws (T++[v]) Kp a) (shw m ns ws T (Kp++[v]) b) else none
def Rows (c:Bool)(H:Hp)(p:Addr)(rs:List (List Int×Int)):Prop:=∃us:List (Addr×Addr×List Int×Int),H p=some (cond c (.lst (us.map λu =>.ref u.1)) (.tup (us.map λu =>.ref u.1)))/\(∀u∈us,H u.1=some (.tup [.ref u.2.1,.int u.2.2.2])/\H u.2.1=some (.tup (u.2.2.1.map V.int))/\u.2.2.1.length<=200)/\us.map (·.2.2)=rs/\us.length<=200
theorem Rows.same {c:Bool}{H H':Hp}{p:Addr}{rs:List (List Int×Int)}(h:Rows c H p rs)(s:aK H H'):Rows c H' p rs:=by
 obtain ⟨us,h1,h2,h3,h4⟩:=h
 exact ⟨us,s _ _ h1,λu hu=>⟨s _ _ (h2 u hu).1,s _ _ (h2 u hu).2.1,(h2 u hu).2.2⟩,h3,h4⟩
def bK (c:Bool)(H:Hp):Nat->Addr->Tr->Prop
 | _,a,.ring Z=>∃p,H a=some (.tup [.str "ring",.ref p])/\H p=some (.tup (Z.map V.int))/\Z.length<=200
 | _,a,.rows rs=>∃p,H a=some (.tup [.str "shares",.ref p])/\Rows c H p rs
 | n,a,.part v x y=>∃k p q,n=k+1/\H a=some (.tup [.str "part",.int v,.ref p,.ref q])/\bK c H k p x/\bK c H k q y
theorem bK.same {c:Bool}{H H':Hp}(s:aK H H'):∀{t:Tr} {n:Nat} {a:Addr},bK c H n a t->bK c H' n a t
 | .ring Z,n,a,h=>by
  obtain ⟨p,h1,h2,h3⟩:=h
  exact ⟨p,s _ _ h1,s _ _ h2,h3⟩
 | .rows rs,n,a,h=>by
  obtain ⟨p,h1,h2⟩:=h
  exact ⟨p,s _ _ h1,h2.same s⟩
 | .part v x y,n,a,h=>by
  obtain ⟨k,p,q,e,h1,h2,h3⟩:=h
  exact ⟨k,p,q,e,s _ _ h1,bK.same s h2,bK.same s h3⟩
theorem bK.mono {c:Bool}{H:Hp}:∀{t:Tr} {n n':Nat} {a:Addr},n<=n'->bK c H n a t->bK c H n' a t
 | .ring Z,n,n',a,l,h=>h
 | .rows rs,n,n',a,l,h=>h
 | .part v x y,n,n',a,l,h=>by
  obtain ⟨k,p,q,rfl,h1,h2,h3⟩:=h
  obtain ⟨k',rfl⟩:∃k',n'=k'+1:=⟨n'-1,by lia⟩
  exact ⟨k',p,q,rfl,h1,bK.mono (by lia) h2,bK.mono (by lia) h3⟩
def Shn (H:Hp)(v:V):Option MnR.Rs->Prop
 | none=>v = .non
 | some x=>∃a,v = .ref a/\H a=some (.tup (MnR.its x))
theorem Shn.same {H H':Hp}{v:V}{x:Option MnR.Rs}(h:Shn H v x)(s:aK H H'):Shn H' v x:=by
 cases x with
 | none=>exact h
 | some x =>
  obtain ⟨a,e,h⟩:=h
  exact ⟨a,e,s _ _ h⟩
abbrev oI:Sp:=λvs H Q _=>∃(r t k:Addr) (m:Nat) (ts:List (Addr×List Int)) (T Kp:List Int) (v:Int),vs=[.ref r,.ref t,.ref k,.int v]/\Wb H r m ts/\H t=some (.tup (T.map V.int))/\H k=some (.tup (Kp.map V.int))/\∀b:Bool,(b=true↔Opn m T Kp v)->Q (.bl b) H
@[irreducible] def k7:Sp:=oI
theorem fW {vs:List V}{H:Hp}{Q:VK}{E:XK}:k7 vs H Q E↔oI vs H Q E:=by
 delta k7
 exact yH
section
variable  {P:wL}{w:xg}{K:wc}{mg:Str->Option wm}{base:Heap}{f T:Addr}{fd:xB}
theorem rN:aO ["web", "taken", "kept", "place"] ["web", "taken", "kept", "place"] (aB kS):=⟨rfl,rfl,rfl,by decide +kernel,rfl,by decide +kernel,by decide +kernel⟩
theorem rO (F:Fun K "is_open" "is_open" kS f fd)(B:Blt mg):bF P w K mg base CX0 1 f fd ["web", "taken", "kept", "place"] k7:=by
 refine F.ok rN (λvs H Q E h =>?_) (λcdv A outer s H vs Q E hr h =>?_)
 ·obtain ⟨_,_,_,_,_,_,_,_,rfl,_⟩:=fW.mp h
  rfl
 obtain ⟨r,t,k,m,ts,T,Kp,v,rfl,W,et,ek,q⟩:=fW.mp h
 refine ⟨_,(@ai _ _ _ (@au _ _ _ _ (mM (qF vI eF ag (pv 3) (@ay _ _ _ _ _ _ _ av (pv 0) ag (λ_ _=>rfl))) (mM (bT bX (pv 3) (pv 1) rfl) (qx (bT bX (pv 3) (pv 2) rfl)))))),?_⟩
 obtain ⟨tt,e1,e2⟩:=W.at'
 refine ⟨_,rfl,_,_,rfl,rfl,_,rfl,bN (λz0 =>?_) (λz0 =>?_)⟩
 case refine_2=>exact ⟨_,rfl,aT (q false ⟨λz=>(by cases z),λz=>absurd (decide_eq_true z.1) z0⟩)⟩
 refine ⟨_,rfl,r,_,0,_,rfl,rfl,SqT.of e1,rfl,_,_,rfl,rfl,_,rfl,bN (λz1 =>?_) (λz1 =>?_)⟩
 case refine_2=>exact q false ⟨λz=>(by cases z),λz=>absurd (decide_eq_true z.2.1) z1⟩
 refine ⟨_,rfl,_,rfl,t,_,rfl,.inr (SqT.of et),rfl,aW T,_,rfl,?_⟩
 show if (if true=true then !inV (.int v) (T.map V.int) else _)=true then _ else _
 rw[if_pos rfl,eJ]
 by_cases h2:v∈T
 ·rw[decide_eq_true h2]
  exact aT (q false ⟨λz=>(by cases z),λz=>absurd h2 z.2.2.1⟩)
 rw[decide_eq_false h2]
 refine aS ⟨_,rfl,_,rfl,k,_,rfl,.inr (SqT.of ek),rfl,aW Kp,?_⟩
 refine q _ ?_
 show (!inV (.int v) (Kp.map V.int))=true↔_
 rw[eJ]
 exact ⟨λz=>⟨of_decide_eq_true z0,of_decide_eq_true z1,h2,by simpa using z⟩,λz=>by simpa using z.2.2.2⟩
end
@[irreducible] def k8 (P:wL)(w:xg)(K:wc)(mg:Str->Option wm)(base:Heap):Sp:=λvs H Q _=>∃(f r k p:Addr) (m:Nat) (ts:List (Addr×List Int)) (Kp Z:List Int),vs=[.ref f,.ref r,.ref k,.ref p]/\jK P w K mg base 3 f ["web", "ring"] bP/\Wb H r m ts/\H k=some (.tup (Kp.map V.int))/\H p=some (.tup (Z.map V.int))/\Z.length<=200/\(∀(b:Option MnR.Rs) (v:V) (H':Hp),aK H H'->Shn H' v b->((IsR (ts.map (·.2)) Z/\∀v∈Z,v∈Kp)->b=some none)->(¬ (IsR (ts.map (·.2)) Z/\∀v∈Z,v∈Kp)->b=none)->Q v H')
theorem fX {P:wL}{w:xg}{K:wc}{mg:Str->Option wm}{base:Heap}{vs:List V}{H:Hp}{Q:VK}{E:XK}:k8 P w K mg base vs H Q E↔∃(f r k p:Addr) (m:Nat) (ts:List (Addr×List Int)) (Kp Z:List Int),vs=[.ref f,.ref r,.ref k,.ref p]/\jK P w K mg base 3 f ["web", "ring"] bP/\Wb H r m ts/\H k=some (.tup (Kp.map V.int))/\H p=some (.tup (Z.map V.int))/\Z.length<=200/\(∀(b:Option MnR.Rs) (v:V) (H':Hp),aK H H'->Shn H' v b->((IsR (ts.map (·.2)) Z/\∀v∈Z,v∈Kp)->b=some none)->(¬ (IsR (ts.map (·.2)) Z/\∀v∈Z,v∈Kp)->b=none)->Q v H'):=by
 delta k8
 exact yH
section
variable  {P:wL}{w:xg}{K:wc}{mg:Str->Option wm}{base:Heap}{f T:Addr}{fd:xB}
theorem mq:aO ["closes", "web", "kept", "ring"] ["closes", "web", "kept", "ring"] (aB fT):=⟨rfl,rfl,rfl,by decide +kernel,rfl,by decide +kernel,by decide +kernel⟩
theorem d8:(["place", "kept"]:List Str).Nodup:=by decide +kernel
theorem mv (F:Fun K "kept_shows" "kept_shows" fT f fd)(B:Blt mg):bF P w K mg base CX0 4 f fd ["closes", "web", "kept", "ring"] (k8 P w K mg base):=by
 refine F.ok mq (λvs H Q E h =>?_) (λcdv A outer s H vs Q E hr h =>?_)
 ·obtain ⟨_,_,_,_,_,_,_,_,rfl,_⟩:=fX.mp h
  rfl
 obtain ⟨f',r,k,p,m,ts,Kp,Z,rfl,CF,W,ek,ep,lz,q⟩:=fX.mp h
 refine ⟨_,(@ah _ _ _ _ _ (@aN _ _ _ _ _ _ _ _ (PW.pt (cz (cf (ma 3 (pv 0) hr (by decide) (@aa _ _ _ _ _ (pv 1) (@aa _ _ _ _ _ (pv 3) af rfl) rfl))) (bW (cf (ao (eV rfl) rfl B.b_all jq (@aa _ _ _ _ _ (bD ["place", "kept"] [none,some 2] rfl (@cW _ _ _ _ (pv 3)) rfl (λ_ _ _ _ _=>(aD (i:=0) d8 rfl (Or.inl rfl))) (λ_ _ _ _ _=>bQ) (λ_ _ _ _ _=>(bT (eZ (K:=K)) (pv 0) (pv 1) rfl))) af rfl)))))) (@ai _ _ _ (@au _ _ _ _ (@aQ _ _ _ _ _ (@aa _ _ _ _ _ aV af rfl)))) az)
  (@ai _ _ _ (@au _ _ _ _ eQ))),?_⟩
 refine ⟨_,rfl,_,_,_,rfl,CF,_,rfl,_,rfl,cQ.mpr ⟨r,p,m,ts,Z,rfl,W,ep,lz,λb1 H1 s1 h1=>⟨_,rfl,?_⟩⟩⟩
 cases b1 with
 | false =>
  refine aT (aT (q none _ _ s1 rfl (λz =>?_) λ_=>rfl))
  exact absurd (h1.mpr z.1) wG
 | true =>
  refine aS ⟨_,rfl,p,rfl,⟨_,SqT.of (s1 _ _ ep)⟩,gD (λv=>decide (v∈Kp)) V.bl (s1 _ _ ep) (by lia) (λv hv R hR =>?_) λl hl =>?_⟩
  ·refine ⟨_,rfl,_,rfl,k,_,rfl,.inr (SqT.of (s1 _ _ ek)),rfl,aW Kp,?_⟩
   show R (V.bl (inV (.int v) (Kp.map V.int))) _
   rw[eJ]
   exact hR
  ·refine ⟨l,_,rfl,SqL.of ae,_,rfl,?_⟩
   have s2:=s1.trans (ab hl (.lst ((Z.map λv=>decide (v∈Kp)).map V.bl)))
   generalize upd H1 l (.lst ((Z.map λv=>decide (v∈Kp)).map V.bl))=H2 at s2
   by_cases c:∀v∈Z,v∈Kp
   ·rw[show (Z.map λv=>decide (v∈Kp)).all id=true by rw[A0,yq];exact λv hv=>decide_eq_true (c v hv)]
    refine aS ⟨(by show 1<=wo;decide),λa ha=>q (some none) _ _ (s2.trans (ab ha _)) ⟨a,rfl,ae⟩ (λ_=>rfl) λz=>absurd ⟨h1.mp rfl,c⟩ z⟩
   ·rw[show (Z.map λv=>decide (v∈Kp)).all id=false by
     rw[yU,Ne,A0,yq]
     exact λz=>c λv hv=>of_decide_eq_true (z v hv)]
    exact aT (q none _ _ s2 rfl (λz=>absurd z.2 c) λ_=>rfl)
end
open PySem L2
theorem aK.dW {H H':Hp}{l:Addr}(s:aK H H')(hl:H l=none)(o:HO):aK H (upd H' l o):=λb u e=>by
 rw[aF (aR e hl)]
 exact s b u e
theorem tQ {K:wc}{a:Addr}{xs:List V}{g:TG}{tb:TS}{D:Ends}{σ:St}{H:Hp}(Pv:Nat->St->Hp->Prop)(hp:H a=some (.lst xs)\/H a=some (.tup xs))(h0:Pv 0 σ H)(hl:∀i σ H',Pv i σ H'->H' a=H a)
  (hs:∀i x σ H,xs[i]? = some x->Pv i σ H->g x σ H λσ2 H2=>tb { D with nx:=Pv (i+1),ct:=Pv (i+1),bk:=D.nx } σ2 H2) (hd:∀σ H,Pv xs.length σ H->D.nx σ H) :
  ((∃xs,SqL K H a xs)/\qN (Itl K a) g tb D σ H)\/((∃xs,SqT K H a xs)/\qN (Itt K a) g tb D σ H):=by
 rcases hp with hp | hp
 ·exact .inl ⟨⟨_,SqL.of hp⟩,dE Pv h0 (λi σ H' _ z=>SqL.of ((hl i σ H' z).trans hp)) hs hd⟩
 ·exact .inr ⟨⟨_,SqT.of hp⟩,nZ Pv h0 (λi σ H' _ z=>SqT.of ((hl i σ H' z).trans hp)) hs hd⟩
theorem rep0:∀m:Nat,(xA m [V.int 0]).flatten=(xA m (0:Int)).map V.int
 | 0=>rfl
 | m+1=>by rw[ye,yu,rep0 m,ye];rfl
theorem nN {Z:List Int}(nd:Z.Nodup){j:Nat}{v:Int}(e:Z[j]? = some v):v∉Z.take j:=λh=>by
 have h1:(Z.take (j+1)).Nodup:=nd.sublist (xR _ _)
 rw[yS,e] at h1
 exact (C0.mp h1).2.2 v h v (by simp) rfl
theorem qg (rs:List (List Int×Int))(Z:List Int)(s v:Int):laid (rs++[(Z,s)]) v=laid rs v+if v∈Z then s else 0:=by
 unfold laid
 rw[A3,wB,B0]
 by_cases h:v∈Z
 ·rw[Ag (by exact decide_eq_true h),if_pos h];simp
 ·rw[Ah (by exact λz=>h (of_decide_eq_true z)),if_neg h];simp
def Lay (m:Nat)(H:Hp)(U:Addr)(g:Int->Int):Prop:=∃L:List Int,H U=some (.lst (L.map V.int))/\L.length=m/\∀j:Nat,j<m->L.getD j 0=g j
theorem IsR.inr {m:Nat}{ns:List (List Int)}(O:Ok m ns){Z:List Int}(h:IsR ns Z):∀v∈Z,0<=v/\v<m:=((oG O Z).mpr h).2.2.1
theorem Wb.ok {H:Hp}{r:Addr}{m:Nat}{ts:List (Addr×List Int)}(W:Wb H r m ts):Ok m (ts.map (·.2)):=λp hp=>by
 obtain ⟨u,hu,rfl⟩:=yv.mp hp
 obtain ⟨a,b,e,h⟩:=W.pr u hu
 exact ⟨a,b,e,h⟩
theorem mw {α:Type}{f:α -> Addr}{us:List α}{i:Nat}{x:V}(e:(us.map λu=>V.ref (f u))[i]? = some x):∃u,us[i]? = some u/\x = .ref (f u):=by
 rw[xh] at e
 cases h:us[i]? with
 | none=>rw[h] at e;cases e
 | some u=>rw[h] at e;exact ⟨u,rfl,(xt e).symm⟩
theorem iz {ws:List Int}{n:Nat}(h:n<ws.length):atI (ws.map V.int) (n:Int)=some (.int (ws.getD n 0)):=fw (by rw[xh,wz h,wD,wz h];rfl)
@[irreducible] def iG (P:wL)(w:xg)(K:wc)(mg:Str->Option wm)(base:Heap):Sp:=λvs H Q _=>∃(f r t k p:Addr) (m:Nat) (ts:List (Addr×List Int)) (T Kp Z:List Int) (s:Int),vs=[.ref f,.ref r,.ref t,.ref k,.ref p,.int s]/\jK P w K mg base 3 f ["web", "ring"] bP/\Wb H r m ts/\H t=some (.tup (T.map V.int))/\H k=some (.tup (Kp.map V.int))/\H p=some (.tup (Z.map V.int))/\Z.length<=200/\∀(b:Bool) (H':Hp),aK H H'->(b=true↔mj (ts.map (·.2)) T Kp (Z,s))->Q (.bl b) H'
theorem ff {P:wL}{w:xg}{K:wc}{mg:Str->Option wm}{base:Heap}{vs:List V}{H:Hp}{Q:VK}{E:XK}:iG P w K mg base vs H Q E↔∃(f r t k p:Addr) (m:Nat) (ts:List (Addr×List Int)) (T Kp Z:List Int) (s:Int),vs=[.ref f,.ref r,.ref t,.ref k,.ref p,.int s]/\jK P w K mg base 3 f ["web", "ring"] bP/\Wb H r m ts/\H t=some (.tup (T.map V.int))/\H k=some (.tup (Kp.map V.int))/\H p=some (.tup (Z.map V.int))/\Z.length<=200/\∀(b:Bool) (H':Hp),aK H H'->(b=true↔mj (ts.map (·.2)) T Kp (Z,s))->Q (.bl b) H':=by
 delta iG
 exact yH
section
variable  {P:wL}{w:xg}{K:wc}{mg:Str->Option wm}{base:Heap}{f T:Addr}{fd:xB}
theorem qh:aO ["closes", "web", "taken", "kept", "ring", "share"] ["closes", "web", "taken", "kept", "ring", "share"] (aB jj):=⟨rfl,rfl,rfl,by decide +kernel,rfl,by decide +kernel,by decide +kernel⟩
theorem eM:(["place", "taken"]:List Str).Nodup:=by decide +kernel
theorem fg:(["place", "kept"]:List Str).Nodup:=by decide +kernel
theorem qi (F:Fun K "is_share" "is_share" jj f fd)(B:Blt mg):bF P w K mg base CX0 4 f fd ["closes", "web", "taken", "kept", "ring", "share"] (iG P w K mg base):=by
 refine F.ok qh (λvs H Q E h =>?_) (λcdv A outer s H vs Q E hr h =>?_)
 ·obtain ⟨_,_,_,_,_,_,_,_,_,_,_,rfl,_⟩:=ff.mp h
  rfl
 obtain ⟨f',r,t,k,p,m,ts,T,Kp,Z,s,rfl,CF,W,et,ek,ep,lz,q⟩:=ff.mp h
 refine ⟨_,(@ah _ _ _ _ _ (@aN _ _ _ _ _ _ _ _ (PW.pt (cg (aj eF (pv 5) ag (ax _)) (cg (fP (cf (ma 3 (pv 0) hr (by decide) (@aa _ _ _ _ _ (pv 1) (@aa _ _ _ _ _ (pv 4) af rfl) rfl)))) (cu (cf (ao (gz rfl) rfl B.b_any kZ (@aa _ _ _ _ _ (bD ["place", "taken"] [none,some 2] rfl (@cW _ _ _ _ (pv 4)) rfl (λ_ _ _ _ _=>(aD (i:=0) eM rfl (Or.inl rfl))) (λ_ _ _ _ _=>bQ) (λ_ _ _ _ _=>(bT (eZ (K:=K)) (pv 0) (pv 1) rfl))) af rfl))))))) (@ai _ _ _ (@au _ _ _ _ jQ)) az)
  (@ai _ _ _ (@au _ _ _ _ (ao (gz rfl) rfl B.b_any kZ (@aa _ _ _ _ _ (bD ["place", "kept"] [none,some 3] rfl (@cW _ _ _ _ (pv 4)) rfl (λ_ _ _ _ _=>(aD (i:=0) fg rfl (Or.inl rfl))) (λ_ _ _ _ _=>bQ) (λ_ _ _ _ _=>(bT (fA (K:=K)) (pv 0) (pv 1) rfl))) af rfl))))),?_⟩
 refine ⟨_,rfl,_,_,rfl,rfl,_,rfl,bN (λz0 =>?_) λz0 =>?_⟩
 ·exact aS (q false _ (aK.refl _) ⟨λz=>(by cases z),λz=>absurd z.1 (by have:=of_decide_eq_true z0;show ¬ 1<=s;lia)⟩)
 have s0:1<=s:=by have:=mt decide_eq_true z0;lia
 refine ⟨_,rfl,_,_,_,rfl,CF,_,rfl,_,rfl,cQ.mpr ⟨r,p,m,ts,Z,rfl,W,ep,lz,λb1 H1 s1 h1=>⟨_,rfl,?_⟩⟩⟩
 cases b1 with
 | false=>exact aS (aS (q false _ s1 ⟨λz=>(by cases z),λz=>absurd (h1.mpr z.2.1) wG⟩))
 | true =>
  refine aT ⟨_,rfl,p,rfl,⟨_,SqT.of (s1 _ _ ep)⟩,gD (λv=>decide (v∈T)) V.bl (s1 _ _ ep) (by lia) (λv hv R hR =>?_) λl hl =>?_⟩
  ·refine ⟨_,rfl,_,rfl,t,_,rfl,.inr (SqT.of (s1 _ _ et)),rfl,aW T,?_⟩
   show R (V.bl (inV (.int v) (T.map V.int))) _
   rw[eJ]
   exact hR
  ·refine ⟨l,_,rfl,SqL.of ae,_,rfl,?_⟩
   have s2:=s1.trans (ab hl (.lst ((Z.map λv=>decide (v∈T)).map V.bl)))
   generalize upd H1 l (.lst ((Z.map λv=>decide (v∈T)).map V.bl))=H2 at s2
   by_cases c:∃v∈Z,v∈T
   ·rw[show (Z.map λv=>decide (v∈T)).any id=true by
     obtain ⟨v,h,h'⟩:=c
     rw[B1,zz];exact ⟨v,h,decide_eq_true h'⟩]
    refine aS (q false _ s2 ⟨λz=>(by cases z),λz =>?_⟩)
    obtain ⟨v,h,h'⟩:=c
    exact absurd h' (z.2.2.1 v h)
   ·rw[show (Z.map λv=>decide (v∈T)).any id=false by
     rw[yU,Ne,B1,zz]
     exact λ⟨v,h,z⟩=>c ⟨v,h,of_decide_eq_true z⟩]
    refine aT ⟨_,rfl,p,rfl,⟨_,SqT.of (s2 _ _ ep)⟩,gD (λv => !decide (v∈Kp)) V.bl (s2 _ _ ep) (by lia) (λv hv R hR =>?_) λl hl =>?_⟩
    ·refine ⟨_,rfl,_,rfl,k,_,rfl,.inr (SqT.of (s2 _ _ ek)),rfl,aW Kp,?_⟩
     show R (V.bl (!inV (.int v) (Kp.map V.int))) _
     rw[eJ]
     exact hR
    ·refine ⟨l,_,rfl,SqL.of ae,q _ _ (s2.trans (ab hl _)) ?_⟩
     rw[B1,zz]
     constructor
     ·rintro ⟨v,h,h'⟩
      refine ⟨s0,h1.mp rfl,λv h z=>c ⟨v,h,z⟩,v,h,by simpa using h'⟩
     ·rintro ⟨_,_,_,v,h,h'⟩
      exact ⟨v,h,by simpa using h'⟩
end
@[irreducible] def gE (P:wL)(w:xg)(K:wc)(mg:Str->Option wm)(base:Heap):Sp:=λvs H Q _=>∃(f r wa t k p:Addr) (m:Nat) (ts:List (Addr×List Int)) (ws T Kp:List Int) (c:Bool) (rs:List (List Int×Int)),vs=[.ref f,.ref r,.ref wa,.ref t,.ref k,.ref p]/\jK P w K mg base 3 f ["web", "ring"] bP/\Wb H r m ts/\m<=200/\(H wa=some (.lst (ws.map V.int))\/H wa=some (.tup (ws.map V.int)))/\ws.length=m/\H t=some (.tup (T.map V.int))/\(∀v∈T,0<=v/\v<m)/\T.length<=1000/\H k=some (.tup (Kp.map V.int))/\Rows c H p rs/\∀(v:V) (H':Hp) (b:Option MnR.Rs),aK H H'->Shn H' v b->(cB m (ts.map (·.2)) ws T Kp rs->b=some (some (wsum ws T+(rs.map (·.2)).sum)))->(¬ cB m (ts.map (·.2)) ws T Kp rs->b=none)->Q v H'
theorem d9 {P:wL}{w:xg}{K:wc}{mg:Str->Option wm}{base:Heap}{vs:List V}{H:Hp}{Q:VK}{E:XK}:gE P w K mg base vs H Q E↔∃(f r wa t k p:Addr) (m:Nat) (ts:List (Addr×List Int)) (ws T Kp:List Int) (c:Bool) (rs:List (List Int×Int)),vs=[.ref f,.ref r,.ref wa,.ref t,.ref k,.ref p]/\jK P w K mg base 3 f ["web", "ring"] bP/\Wb H r m ts/\m<=200/\(H wa=some (.lst (ws.map V.int))\/H wa=some (.tup (ws.map V.int)))/\ws.length=m/\H t=some (.tup (T.map V.int))/\(∀v∈T,0<=v/\v<m)/\T.length<=1000/\H k=some (.tup (Kp.map V.int))/\Rows c H p rs/\∀(v:V) (H':Hp) (b:Option MnR.Rs),aK H H'->Shn H' v b->(cB m (ts.map (·.2)) ws T Kp rs->b=some (some (wsum ws T+(rs.map (·.2)).sum)))->(¬ cB m (ts.map (·.2)) ws T Kp rs->b=none)->Q v H':=by
 delta gE
 exact yH
section
variable  {P:wL}{w:xg}{K:wc}{mg:Str->Option wm}{base:Heap}{f T:Addr}{fd:xB}
theorem cw:aO ["closes", "web", "weights", "taken", "kept", "rows", "used", "row", "place"] ["closes", "web", "weights", "taken", "kept", "rows"] (aB fe):=⟨rfl,rfl,rfl,by decide +kernel,rfl,by decide +kernel,by decide +kernel⟩
theorem de:(["place", "weights"]:List Str).Nodup:=by decide +kernel
theorem g7:(["row"]:List Str).Nodup:=by decide +kernel
theorem k9 (F:Fun K "shares_show" "shares_show" fe f fd)(B:Blt mg)(cIsShare:Cal P w K mg base 4 "is_share" ["closes", "web", "taken", "kept", "ring", "share"] (iG P w K mg base)):bF P w K mg base CX0 5 f fd ["closes", "web", "weights", "taken", "kept", "rows"] (gE P w K mg base):=by
 refine F.ok cw (λvs H Q E h =>?_) (λcdv A outer s H vs Q E hr h =>?_)
 ·obtain ⟨_,_,_,_,_,_,_,_,_,_,_,_,_,rfl,_⟩:=d9.mp h
  rfl
 obtain ⟨f',r,wa,t,k,p,m,ts,ws,T,Kp,c,rs,rfl,CF,W,m2,hw,lw,et,tm,lt,ek,R,q⟩:=d9.mp h
 refine ⟨_,(@ah _ _ _ _ _ (@aH _ _ 6 _ _ _ _ cw.nd rfl (Or.inl rfl) (@aE _ _ _ _ _ _ _ _ qK (@aI _ _ _ _ (@aa _ _ _ _ _ ag af rfl)) (@ay _ _ _ _ _ _ _ av (pv 1) ag (λ_ _=>rfl))) rfl (by first | exact .inl rfl | exact .inr rfl | assumption))
  (@ah _ _ _ _ _ (@cv _ _ _ _ _ _ _ _ xN rfl (rb (pv 5)) (aD (i:=7) cw.nd rfl (Or.inl rfl))
   (@ah _ _ _ _ _ (@aN _ _ _ _ _ _ _ _ (fP (cf (aq cIsShare hr (by decide) rfl (@aa _ _ _ _ _ (pv 0) (@aa _ _ _ _ _ (pv 1) (@aa _ _ _ _ _ (pv 3) (@aa _ _ _ _ _ (pv 4) (@aa _ _ _ _ _ (@ay _ _ _ _ _ _ _ av (pv 7) ag (λ_ _=>rfl)) (@aa _ _ _ _ _ (@ay _ _ _ _ _ _ _ av (pv 7) ag (λ_ _=>rfl)) af rfl) rfl) rfl) rfl) rfl) rfl)))) (@ai _ _ _ (@au _ _ _ _ eQ)) az)
   (@ai _ _ _ (@cv _ _ _ _ _ _ _ _ xN rfl (@cW _ _ _ _ (@ay _ _ _ _ _ _ _ av (pv 7) ag (λ_ _=>rfl))) (aD (i:=8) cw.nd rfl (Or.inl rfl))
    (@ai _ _ _ (sr (pv 6) (pv 8) p9 (@ay _ _ _ _ _ _ _ av (pv 7) ag (λ_ _=>rfl)) uC set_list)) (λ_=>rfl)))) (λ_=>rfl))
  (@ah _ _ _ _ _ (@cv _ _ _ _ _ _ _ _ xN rfl (bz rfl B.b_range (@aa _ _ _ _ _ (@ay _ _ _ _ _ _ _ av (pv 1) ag (λ_ _=>rfl)) af rfl)) (aD (i:=8) cw.nd rfl (Or.inl rfl))
   (@ai _ _ _ (@aN _ _ _ _ _ _ _ _ (PW.pt (cz (aj bX (pv 8) (pv 4) rfl) (bW (aj iS (@ay _ _ _ _ _ _ _ bC (pv 6) (pv 8) (λ_ _=>rfl)) (@ay _ _ _ _ _ _ _ (oF (K:=K)) (pv 2) (pv 8) (λ_ _=>rfl)) (ax _))))) (@ai _ _ _ (@au _ _ _ _ eQ)) az)) (λ_=>rfl))
  (@ai _ _ _ (@au _ _ _ _ (@aQ _ _ _ _ _ (@aa _ _ _ _ _ aV (@aa _ _ _ _ _ (@aE _ _ _ _ _ _ _ _ bh (ao (gw hr.hd) rfl B.b_sum jt (@aa _ _ _ _ _ (bD ["place", "weights"] [none,some 2] rfl (@cW _ _ _ _ (pv 3)) rfl (λ_ _ _ _ _=>(aD (i:=0) de rfl (Or.inl rfl))) (λ_ _ _ _ _=>bQ) (λ_ _ _ _ _=>(@ay _ _ _ _ _ _ _ (oF (K:=K)) (pv 1) (pv 0) (λ_ _=>rfl)))) af rfl)) (ao (gw hr.hd) rfl B.b_sum jt (@aa _ _ _ _ _ (bD ["row"] [none] rfl (rb (pv 5)) rfl (λ_ _ _ _ _=>(aD (i:=0) g7 rfl (Or.inl rfl))) (λ_ _ _ _ _=>bQ) (λ_ _ _ _ _=>(@ay _ _ _ _ _ _ _ (kF (K:=K)) (pv 0) ag (λ_ _=>rfl)))) af rfl))) af rfl) rfl))))))),?_⟩
 obtain ⟨tt,e1,e2⟩:=W.at'
 obtain ⟨us,hp,hu,eus,lus⟩:=R
 have hp':H p=some (.lst (us.map λu =>.ref u.1))\/H p=some (.tup (us.map λu =>.ref u.1)):=by
  cases c with
  | true=>exact .inl hp
  | false=>exact .inr hp
 have lum:(us.map λu=>V.ref u.1).length=us.length:=wd _
 refine ⟨(by show 1<=wo;decide),λo ho =>?_⟩
 have go:=ab ho (.lst [.int 0])
 refine ⟨_,rfl,r,_,0,_,rfl,rfl,SqT.of (go _ _ e1),rfl,o,_,_,rfl,rfl,ae,by lia,by lia,?_,λU hU =>?_⟩
 ·exact aU (by show 1*(m:Int).toNat<=5000;lia)
 have hU0:=go.free hU
 have gU:=go.trans (ab hU (.lst (xA (m:Int).toNat [V.int 0]).flatten))
 have LU:Lay m (upd (upd H o (.lst [.int 0])) U (.lst (xA (m:Int).toNat [V.int 0]).flatten)) U λv=>laid (rs.take 0) v:=by
  refine ⟨xA m 0,?_,As,λj hj =>?_⟩
  ·rw[ae]
   congr 2
   rw[show (m:Int).toNat=m by lia]
   exact rep0 m
  ·rw[wD,List.getElem?_replicate_of_lt hj]
   rfl
 generalize upd (upd H o (.lst [.int 0])) U (.lst (xA (m:Int).toNat [V.int 0]).flatten)=H1 at gU LU
 have cut:∀{i:Nat} {u:Addr×Addr×List Int×Int},us[i]? = some u->rs.take (i+1)=rs.take i++[(u.2.2.1,u.2.2.2)]:=λ{i u} e=>by
  rw[<- eus, <- zP, <- zP,take_snoc e]
 refine ⟨_,rfl,p,rfl,tQ (xs:=us.map λu =>.ref u.1) (λi σ H'=>(∃c7 c8,σ=[some (.ref f'),some (.ref r),some (.ref wa),some (.ref t),some (.ref k),some (.ref p),some (.ref U),c7,c8])/\aK H H'/\Lay m H' U (laid (rs.take i))/\∀r∈rs.take i,mj (ts.map (·.2)) T Kp r) (hp'.imp (gU _ _) (gU _ _)) ⟨⟨_,_,rfl⟩,gU,LU,λr h=>(by cases h)⟩ (λi σ H' h=>by rcases hp' with z | z <;> rw[h.2.1 _ _ z,gU _ _ z]) ?_ ?_⟩
 ·rintro i x σ H2 hx ⟨⟨c7,c8,rfl⟩,s2,L2,al⟩
  obtain ⟨u,eu,rfl⟩:=mw hx
  have um:=wR eu
  obtain ⟨h1,h2,h3⟩:=hu u um
  have ea:=s2 _ _ h1
  have rm:(u.2.2.1,u.2.2.2)∈rs:=by rw[<- eus];exact zY (f:=(·.2.2)) um
  refine ⟨_,rfl,_,rfl,_,rfl,_,rfl,_,rfl,u.1,_,0,_,rfl,rfl,SqT.of ea,rfl,_,rfl,u.1,_,1,_,rfl,rfl,SqT.of ea,rfl,ff.mpr ⟨f',r,t,k,u.2.1,m,ts,T,Kp,u.2.2.1,u.2.2.2,rfl,CF,W.same s2,s2 _ _ et,s2 _ _ ek,s2 _ _ h2,h3,λb1 H3 s3 hb=>⟨_,rfl,?_⟩⟩⟩
  cases b1 with
  | false =>
   refine aS (q _ _ none (s2.trans s3) rfl (λz =>?_) λ_=>rfl)
   exact absurd (hb.mpr (z.1 _ rm)) wG
  | true =>
   have ro:=hb.mp rfl
   have rng:=IsR.inr W.ok ro.2.1
   have nd:u.2.2.1.Nodup:=ro.2.1.2.1
   have s23:=s2.trans s3
   have L3:Lay m H3 U λv=>laid (rs.take i) v+if v∈u.2.2.1.take 0 then u.2.2.2 else 0:=by
    obtain ⟨L,a,b,c⟩:=L2
    exact ⟨L,s3 _ _ a,b,λj hj=>by rw[c j hj];simp⟩
   have lzm:(u.2.2.1.map V.int).length=u.2.2.1.length:=wd _
   let W0:Nat->St->Hp->Prop:=λj σ H'=>(∃c8,σ=[some (.ref f'),some (.ref r),some (.ref wa),some (.ref t),some (.ref k),some (.ref p),some (.ref U),some (.ref u.1),c8])/\aK H H'/\Lay m H' U λv=>laid (rs.take i) v+if v∈u.2.2.1.take j then u.2.2.2 else 0
   refine aT ⟨_,rfl,u.1,_,0,_,rfl,rfl,SqT.of (s23 _ _ h1),rfl,u.2.1,rfl,⟨_,SqT.of (s23 _ _ h2)⟩,nZ (xs:=u.2.2.1.map V.int) W0 ⟨⟨_,rfl⟩,s23,L3⟩ (λj σ H' _ h=>SqT.of (h.2.1 _ _ h2)) ?_ ?_⟩
   ·rintro j x σ H4 hx ⟨⟨c8,rfl⟩,s4,L,eL,lL,aL⟩
    obtain ⟨v,ev,rfl⟩:=iu hx
    obtain ⟨v0,v1⟩:=rng v (wR ev)
    obtain ⟨n,rfl⟩:∃n:Nat,v=n:=⟨v.toNat,by lia⟩
    have hn:n<L.length:=by lia
    have nj:(n:Int)∉u.2.2.1.take j:=nN nd ev
    refine ⟨_,rfl,_,rfl,U,_,n,.int (L.getD n 0),rfl,rfl,SqL.of eL,by rw[xh,wz hn,wD,wz hn];rfl,_,rfl,u.1,_,1,_,rfl,rfl,SqT.of (s4 _ _ h1),rfl,_,_,rfl,rfl,U,_,n,n,rfl,rfl,eL,by unfold ixN;rw[if_pos (by lia),if_pos (by rw[wd];lia)];rfl,⟨_,rfl⟩,aK.dW s4 hU0 _,L.set n (L.getD n 0+u.2.2.2),by rw[ae,C4],by rw[AG];exact lL,λj' hj' =>?_⟩
    rw[wD,List.getElem?_set]
    by_cases c:n=j'
    ·subst c
     rw[if_pos rfl,if_pos hn,aL n hj']
     show (laid (rs.take i) n+if (n:Int)∈u.2.2.1.take j then u.2.2.2 else 0)+u.2.2.2=laid (rs.take i) n+if (n:Int)∈u.2.2.1.take (j+1) then u.2.2.2 else 0
     rw[if_neg nj,if_pos (by rw[yS,ev];simp),C5]
    ·rw[if_neg c, <- wD,aL j' hj']
     have:((j':Int)∈u.2.2.1.take (j+1))↔(j':Int)∈u.2.2.1.take j:=by
      rw[yS,ev,wC]
      constructor
      ·rintro (z | z)
       ·exact z
       ·have:(j':Int)=n:=by simpa using z
        lia
      ·exact .inl
     simp only[this]
   ·rintro σ H4 ⟨⟨c8,rfl⟩,s4,L4⟩
    rw[lzm,yE] at L4
    refine ⟨⟨_,_,rfl⟩,s4,?_,λr' h =>?_⟩
    ·obtain ⟨L,a,b,c⟩:=L4
     exact ⟨L,a,b,λj hj=>by rw[c j hj,cut eu,qg]⟩
    ·rw[cut eu] at h
     rcases wC.mp h with z | z
     ·exact al r' z
     ·rw[wx.mp z];exact ro
 rintro σ H2 ⟨⟨c7,c8,rfl⟩,s2,L2,al⟩
 have lr:rs.length=us.length:=by rw[<- eus,wd]
 rw[lum, <- lr,yE] at L2 al
 obtain ⟨L,eL,lL,aL⟩:=L2
 have hw2:∀{H':Hp},aK H H'->∀{i:Nat},i<m->(∃v,(SqL K H' wa (ws.map V.int)\/SqT K H' wa (ws.map V.int))/\atI (ws.map V.int) (i:Int)=some (.int v)/\v=ws.getD i 0):=λ{H'} s' {i} hi=>⟨_,hw.imp (λz=>SqL.of (s' _ _ z)) (λz=>SqT.of (s' _ _ z)),iz (by lia),rfl⟩
 let W1:Nat->St->Hp->Prop:=λi σ H'=>(∃c8,σ=[some (.ref f'),some (.ref r),some (.ref wa),some (.ref t),some (.ref k),some (.ref p),some (.ref U),c7,c8])/\H'=H2/\∀j:Nat,j<i->(j:Int)∉Kp->laid rs j<=ws.getD j 0
 refine ⟨_,rfl,r,_,0,_,rfl,rfl,SqT.of (s2 _ _ e1),rfl,(m:Int),rfl,by lia,by lia,dF W1 ⟨⟨_,rfl⟩,rfl,λj h=>absurd h (BZ j)⟩ ?_ ?_⟩
 ·rintro i σ H3 hi ⟨⟨c8,rfl⟩,rfl,hj⟩
  have him:i<m:=by lia
  rw[B2]
  refine ⟨_,rfl,_,rfl,k,_,rfl,.inr (SqT.of (s2 _ _ ek)),rfl,aW Kp,_,rfl,?_⟩
  show if (if true=true then !inV (.int i) (Kp.map V.int) else _)=true then _ else _
  rw[if_pos rfl,eJ]
  by_cases h2:(i:Int)∈Kp
  ·rw[decide_eq_true h2]
   refine aT (aT ⟨⟨_,rfl⟩,rfl,λj hj' hk =>?_⟩)
   by_cases c:j=i
   ·subst c;exact absurd h2 hk
   ·exact hj j (by lia) hk
  rw[decide_eq_false h2]
  obtain ⟨wv,hq,ha,hv⟩:=hw2 s2 him
  refine aS ⟨_,rfl,_,rfl,U,_,i,_,rfl,rfl,SqL.of eL,iz (by lia),_,rfl,_,rfl,wa,_,i,_,rfl,rfl,hq,ha,_,_,rfl,rfl,_,rfl,bN (λz =>?_) λz =>?_⟩
  ·refine q _ _ none s2 rfl (λh =>?_) λ_=>rfl
   have h1:=h.2 i him h2
   have h3:=of_decide_eq_true z
   rw[aL i him,hv] at h3
   lia
  ·refine ⟨⟨_,rfl⟩,rfl,λj hj' hk =>?_⟩
   by_cases c:j=i
   ·subst c
    have h3:=mt decide_eq_true z
    rw[aL j him,hv] at h3
    lia
   ·exact hj j (by lia) hk
 rintro σ H3 ⟨⟨c8,rfl⟩,rfl,hj⟩
 have RO:cB m (ts.map (·.2)) ws T Kp rs:=⟨al,λi hi=>hj i (by lia)⟩
 refine ⟨_,rfl,t,rfl,⟨_,SqT.of (s2 _ _ et)⟩,gD (λv=>ws.getD v.toNat 0) V.int (s2 _ _ et) (by lia) (λv hv R hR =>?_) λl hl =>?_⟩
 ·obtain ⟨v0,v1⟩:=tm v hv
  obtain ⟨wv,hq,ha,hv'⟩:=hw2 s2 (i:=v.toNat) (by lia)
  rw[show ((v.toNat:Nat):Int)=v by lia] at ha
  refine ⟨_,rfl,_,rfl,wa,_,v,_,rfl,rfl,hq,ha,?_⟩
  rw[hv']
  exact hR
 have s4:=s2.trans (ab hl (.lst ((T.map λv=>ws.getD v.toNat 0).map V.int)))
 refine ⟨l,_,rfl,ae,?_⟩
 generalize upd H3 l (.lst ((T.map λv=>ws.getD v.toNat 0).map V.int))=H4 at s4
 refine ⟨_,rfl,p,rfl,pR (xs:=us.map λu =>.ref u.1) (λi ys H'=>H'=H4/\ys=((rs.take i).map (·.2)).map V.int) (hp'.imp (s4 _ _) (s4 _ _)) ⟨rfl,rfl⟩ (by rw[lum];exact aU (by lia)) (λi ys H' h=>by rw[h.1]) ?_ ?_⟩
 ·rintro i x ys H5 hx _ ⟨rfl,rfl⟩ R1 R0 r1 r0
  obtain ⟨u,eu,rfl⟩:=mw hx
  refine aS ⟨_,rfl,u.1,_,1,_,rfl,rfl,SqT.of (s4 _ _ (hu u (wR eu)).1),rfl,r1 _ _ ⟨rfl,?_⟩⟩
  rw[cut eu,wB,wB];rfl
 ·rintro ys H5 _ ⟨rfl,rfl⟩ l5 hl5
  rw[lum, <- lr,yE]
  refine ⟨l5,_,rfl,ae,_,_,rfl,rfl,(by show 2<=wo;decide),λa ha =>?_⟩
  exact q _ _ (some (some (wsum ws T+(rs.map (·.2)).sum))) (s4.trans ((ab hl5 _).trans (ab ha _))) ⟨a,rfl,ae⟩ (λ_=>rfl) λz=>absurd RO z
end
abbrev oJ:Sp:=λvs H Q _=>∃(a b:V) (x y:Option MnR.Rs),vs=[a,b]/\Shn H a x/\Shn H b y/\∀v:V,Shn H v (both x y)->Q v H
@[irreducible] def lb:Sp:=oJ
theorem fY {vs:List V}{H:Hp}{Q:VK}{E:XK}:lb vs H Q E↔oJ vs H Q E:=by
 delta lb
 exact yH
section
variable  {P:wL}{w:xg}{K:wc}{mg:Str->Option wm}{base:Heap}{f T:Addr}{fd:xB}
theorem jL:aO ["first", "second"] ["first", "second"] (aB dX):=⟨rfl,rfl,rfl,by decide +kernel,rfl,by decide +kernel,by decide +kernel⟩
theorem jM (F:Fun K "lesser_shown" "lesser_shown" dX f fd)(B:Blt mg):bF P w K mg base CX0 1 f fd ["first", "second"] lb:=by
 refine F.ok jL (λvs H Q E h =>?_) (λcdv A outer s H vs Q E hr h =>?_)
 ·obtain ⟨_,_,_,_,rfl,_⟩:=fY.mp h
  rfl
 obtain ⟨a,b,x,y,rfl,hx,hy,q⟩:=fY.mp h
 refine ⟨_,(@ah _ _ _ _ _ (@aN _ _ _ _ _ _ _ _ (PW.pt (cg (aj mQ (pv 0) eQ (ax _)) (cu (aj mQ (pv 1) eQ (ax _))))) (@ai _ _ _ (@au _ _ _ _ eQ)) az)
  (@ai _ _ _ (@au _ _ _ _ (ao (nD rfl (hu8 hr)) rfl B.b_min dZ (@aa _ _ _ _ _ (pv 0) (@aa _ _ _ _ _ (pv 1) af rfl) rfl))))),?_⟩
 cases x with
 | none =>
  cases (show a = .non from hx)
  exact ⟨_,rfl,rfl,_,rfl,aS (aS (q .non rfl))⟩
 | some x =>
  obtain ⟨a',rfl,ea⟩:=hx
  cases y with
  | none =>
   cases (show b = .non from hy)
   exact ⟨_,rfl,rfl,_,rfl,aT ⟨_,rfl,rfl,_,rfl,aS (q .non rfl)⟩⟩
  | some y =>
   obtain ⟨b',rfl,eb⟩:=hy
   refine ⟨_,rfl,rfl,_,rfl,aT ⟨_,rfl,rfl,_,rfl,aT ⟨_,rfl,_,rfl,a',b',x,y,rfl,SqT.of ea,SqT.of eb,λz=>q _ ?_,λz=>q _ ?_⟩⟩⟩
   ·refine ⟨b',rfl,?_⟩
    unfold ml
    rw[if_pos z];exact eb
   ·refine ⟨a',rfl,?_⟩
    unfold ml
    rw[if_neg (by rw[z];exact wG)];exact ea
end
open PySem L2
@[irreducible] def fZ (P:wL)(w:xg)(K:wc)(mg:Str->Option wm)(base:Heap):Nat->Sp
 | 0=>λ_ _ _ _=>False
 | n+1=>λvs H Q _=>∃(f r wa t k a:Addr) (m:Nat) (ts:List (Addr×List Int)) (ws T Kp:List Int) (c:Bool) (tr:Tr),vs=[.str "ring",.ref f,.ref r,.ref wa,.ref t,.ref k,.ref a]/\jK P w K mg base 3 f ["web", "ring"] bP/\Wb H r m ts/\m<=200/\(H wa=some (.lst (ws.map V.int))\/H wa=some (.tup (ws.map V.int)))/\ws.length=m/\H t=some (.tup (T.map V.int))/\(∀v∈T,0<=v/\v<m)/\T.length+n<=1000/\H k=some (.tup (Kp.map V.int))/\Kp.length+n<=1000/\bK c H n a tr/\∀(v:V) (H':Hp),aK H H'->Shn H' v (shw m (ts.map (·.2)) ws T Kp tr)->Q v H'
theorem df {P:wL}{w:xg}{K:wc}{mg:Str->Option wm}{base:Heap}{n:Nat}{vs:List V}{H:Hp}{Q:VK}{E:XK}:fZ P w K mg base (n+1) vs H Q E↔∃(f r wa t k a:Addr) (m:Nat) (ts:List (Addr×List Int)) (ws T Kp:List Int) (c:Bool) (tr:Tr),vs=[.str "ring",.ref f,.ref r,.ref wa,.ref t,.ref k,.ref a]/\jK P w K mg base 3 f ["web", "ring"] bP/\Wb H r m ts/\m<=200/\(H wa=some (.lst (ws.map V.int))\/H wa=some (.tup (ws.map V.int)))/\ws.length=m/\H t=some (.tup (T.map V.int))/\(∀v∈T,0<=v/\v<m)/\T.length+n<=1000/\H k=some (.tup (Kp.map V.int))/\Kp.length+n<=1000/\bK c H n a tr/\∀(v:V) (H':Hp),aK H H'->Shn H' v (shw m (ts.map (·.2)) ws T Kp tr)->Q v H':=by
 unfold fZ
 exact yH
theorem qj {P:wL}{w:xg}{K:wc}{mg:Str->Option wm}{base:Heap}{vs:List V}{H:Hp}{Q:VK}{E:XK}:¬ fZ P w K mg base 0 vs H Q E:=by
 unfold fZ
 exact id
theorem rP {m:Nat}{ns:List (List Int)}{ws T Kp:List Int}{v:Int}{x y:Tr}(h:Opn m T Kp v):shw m ns ws T Kp (.part v x y)=both (shw m ns ws (T++[v]) Kp x) (shw m ns ws T (Kp++[v]) y):=by rw[shw,if_pos h]
theorem iH {m:Nat}{ns:List (List Int)}{ws T Kp:List Int}{v:Int}{x y:Tr}(h:¬ Opn m T Kp v):shw m ns ws T Kp (.part v x y)=none:=by rw[shw,if_neg h]
theorem oK:("shares" : Str) ≠ "ring" := by decide +kernel
theorem oM:("part" : Str) ≠ "ring" := by decide +kernel
theorem oN:("part" : Str) ≠ "shares" := by decide +kernel
section
variable  {P:wL}{w:xg}{K:wc}{mg:Str->Option wm}{base:Heap}{f T:Addr}{fd:xB}
theorem dk:aO ["word", "closes", "web", "weights", "taken", "kept", "tree", "place", "first", "second"] ["word", "closes", "web", "weights", "taken", "kept", "tree"] (aB fU):=⟨rfl,rfl,rfl,by decide +kernel,rfl,by decide +kernel,by decide +kernel⟩
theorem my (F:Fun K "case_shows" "case_shows" fU f fd)(B:Blt mg)(n:Nat)(cCaseShows:Cal P w K mg base (5+n) "case_shows" ["word", "closes", "web", "weights", "taken", "kept", "tree"] (fZ P w K mg base n))(cLesserShown:Cal P w K mg base 1 "lesser_shown" ["first", "second"] lb)(cKeptShows:Cal P w K mg base 4 "kept_shows" ["closes", "web", "kept", "ring"] (k8 P w K mg base))(cSharesShow:Cal P w K mg base 5 "shares_show" ["closes", "web", "weights", "taken", "kept", "rows"] (gE P w K mg base))(cIsOpen:Cal P w K mg base 1 "is_open" ["web", "taken", "kept", "place"] k7):bF P w K mg base CX0 (5+n+1) f fd ["word", "closes", "web", "weights", "taken", "kept", "tree"] (fZ P w K mg base (n+1)):=by
 refine F.ok dk (λvs H Q E h =>?_) (λcdv A outer s H vs Q E hr h =>?_)
 ·obtain ⟨_,_,_,_,_,_,_,_,_,_,_,_,_,rfl,_⟩:=df.mp h
  rfl
 obtain ⟨f',r,wa,t,k,a,m,ts,ws,T,Kp,c,tr,rfl,CF,W,m2,hw,lw,et,tm,lt,ek,lk,tr0,q⟩:=df.mp h
 refine ⟨_,(@ah _ _ _ _ _ (@aN _ _ _ _ _ _ _ _ (aj bo (@ay _ _ _ _ _ _ _ av (pv 6) ag (λ_ _=>rfl)) (pv 0) (ax _)) (@ai _ _ _ (@au _ _ _ _ (aq cKeptShows hr (by lia) rfl (@aa _ _ _ _ _ (pv 1) (@aa _ _ _ _ _ (pv 2) (@aa _ _ _ _ _ (pv 5) (@aa _ _ _ _ _ (@ay _ _ _ _ _ _ _ av (pv 6) ag (λ_ _=>rfl)) af rfl) rfl) rfl) rfl)))) az)
  (@ah _ _ _ _ _ (@aN _ _ _ _ _ _ _ _ (aj bo (@ay _ _ _ _ _ _ _ av (pv 6) ag (λ_ _=>rfl)) aV (ax _)) (@ai _ _ _ (@au _ _ _ _ (aq cSharesShow hr (by lia) rfl (@aa _ _ _ _ _ (pv 1) (@aa _ _ _ _ _ (pv 2) (@aa _ _ _ _ _ (pv 3) (@aa _ _ _ _ _ (pv 4) (@aa _ _ _ _ _ (pv 5) (@aa _ _ _ _ _ (@ay _ _ _ _ _ _ _ av (pv 6) ag (λ_ _=>rfl)) af rfl) rfl) rfl) rfl) rfl) rfl)))) az)
  (@ah _ _ _ _ _ (@aN _ _ _ _ _ _ _ _ (PW.pt (cg (aj qE (@ay _ _ _ _ _ _ _ av (pv 6) ag (λ_ _=>rfl)) aV (ax _)) (cu (fP (cf (aq cIsOpen hr (by lia) rfl (@aa _ _ _ _ _ (pv 2) (@aa _ _ _ _ _ (pv 4) (@aa _ _ _ _ _ (pv 5) (@aa _ _ _ _ _ (@ay _ _ _ _ _ _ _ av (pv 6) ag (λ_ _=>rfl)) af rfl) rfl) rfl) rfl))))))) (@ai _ _ _ (@au _ _ _ _ eQ)) az)
  (@ah _ _ _ _ _ (@aH _ _ 7 _ _ _ _ dk.nd rfl (Or.inl rfl) (@aQ _ _ _ _ _ (@aa _ _ _ _ _ (@ay _ _ _ _ _ _ _ av (pv 6) ag (λ_ _=>rfl)) af rfl)) rfl (by first | exact .inl rfl | exact .inr rfl | assumption))
  (@ah _ _ _ _ _ (@aH _ _ 8 _ _ _ _ dk.nd rfl (Or.inl rfl) (aq cCaseShows hr (wq _) rfl (@aa _ _ _ _ _ (pv 0) (@aa _ _ _ _ _ (pv 1) (@aa _ _ _ _ _ (pv 2) (@aa _ _ _ _ _ (pv 3) (@aa _ _ _ _ _ (@aE _ _ _ _ _ _ _ _ cZ (pv 4) (pv 7)) (@aa _ _ _ _ _ (pv 5) (@aa _ _ _ _ _ (@ay _ _ _ _ _ _ _ av (pv 6) ag (λ_ _=>rfl)) af rfl) rfl) rfl) rfl) rfl) rfl) rfl)) rfl (by first | exact .inl rfl | exact .inr rfl | assumption))
  (@ah _ _ _ _ _ (@aH _ _ 9 _ _ _ _ dk.nd rfl (Or.inl rfl) (aq cCaseShows hr (wq _) rfl (@aa _ _ _ _ _ (pv 0) (@aa _ _ _ _ _ (pv 1) (@aa _ _ _ _ _ (pv 2) (@aa _ _ _ _ _ (pv 3) (@aa _ _ _ _ _ (pv 4) (@aa _ _ _ _ _ (@aE _ _ _ _ _ _ _ _ cZ (pv 5) (pv 7)) (@aa _ _ _ _ _ (@ay _ _ _ _ _ _ _ av (pv 6) ag (λ_ _=>rfl)) af rfl) rfl) rfl) rfl) rfl) rfl) rfl)) rfl (by first | exact .inl rfl | exact .inr rfl | assumption))
  (@ai _ _ _ (@au _ _ _ _ (aq cLesserShown hr (by lia) rfl (@aa _ _ _ _ _ (pv 8) (@aa _ _ _ _ _ (pv 9) af rfl) rfl)))))))))),?_⟩
 cases tr with
 | ring Z =>
  obtain ⟨p,ea,ep,lz⟩:=tr0
  refine ⟨_,rfl,a,_,0,_,rfl,rfl,SqT.of ea,rfl,_,rfl,rfl,_,rfl,?_⟩
  rw[decide_eq_true (rfl:V.str "ring" = V.str "ring")]
  refine aS ⟨_,rfl,_,rfl,_,rfl,_,rfl,a,_,1,_,rfl,rfl,SqT.of ea,rfl,fX.mpr ⟨f',r,k,p,m,ts,Kp,Z,rfl,CF,W,ek,ep,lz,λb v H' s' hs h1 h2=>q v H' s' ?_⟩⟩
  unfold shw
  by_cases cc:IsR (ts.map (·.2)) Z/\∀v∈Z,v∈Kp
  ·rw[if_pos cc, <- h1 cc];exact hs
  ·rw[if_neg cc, <- h2 cc];exact hs
 | rows rs =>
  obtain ⟨p,ea,R⟩:=tr0
  refine ⟨_,rfl,a,_,0,_,rfl,rfl,SqT.of ea,rfl,_,rfl,rfl,_,rfl,?_⟩
  rw[decide_eq_false (λz=>oK (V.str.inj z))]
  refine aT ⟨_,rfl,a,_,0,_,rfl,rfl,SqT.of ea,rfl,rfl,_,rfl,?_⟩
  rw[decide_eq_true (rfl:V.str "shares" = V.str "shares")]
  refine aS ⟨_,rfl,_,rfl,_,rfl,_,rfl,_,rfl,_,rfl,a,_,1,_,rfl,rfl,SqT.of ea,rfl,d9.mpr ⟨f',r,wa,t,k,p,m,ts,ws,T,Kp,c,rs,rfl,CF,W,m2,hw,lw,et,tm,by lia,ek,R,λv H' b s' hs h1 h2=>q v H' s' ?_⟩⟩
  unfold shw
  by_cases cc:cB m (ts.map (·.2)) ws T Kp rs
  ·rw[if_pos cc, <- h1 cc];exact hs
  ·rw[if_neg cc, <- h2 cc];exact hs
 | part v x y =>
  obtain ⟨n',p,p',rfl,ea,hx,hy⟩:=tr0
  refine ⟨_,rfl,a,_,0,_,rfl,rfl,SqT.of ea,rfl,_,rfl,rfl,_,rfl,?_⟩
  rw[decide_eq_false (λz=>oM (V.str.inj z))]
  refine aT ⟨_,rfl,a,_,0,_,rfl,rfl,SqT.of ea,rfl,rfl,_,rfl,?_⟩
  rw[decide_eq_false (λz=>oN (V.str.inj z))]
  refine aT ⟨_,rfl,a,_,0,_,rfl,rfl,SqT.of ea,rfl,rfl,_,rfl,?_⟩
  rw[decide_eq_true (rfl:V.str "part" = V.str "part")]
  refine aT ⟨_,rfl,_,rfl,_,rfl,_,rfl,a,_,1,_,rfl,rfl,SqT.of ea,rfl,fW.mpr ⟨r,t,k,m,ts,T,Kp,v,rfl,W,et,ek,λb hb=>⟨_,rfl,?_⟩⟩⟩
  cases b with
  | false =>
   refine aS (q _ _ (aK.refl _) ?_)
   rw[iH λz=>wG (hb.mpr z)]
   rfl
  | true =>
   have op:=hb.mp rfl
   rw[rP op] at q
   refine aT ⟨_,rfl,a,_,1,_,rfl,rfl,SqT.of ea,rfl,(by show 1<=wo;decide),λo ho =>?_⟩
   have s1:=ab ho (.tup [.int v])
   have eo:upd H o (.tup [.int v]) o=some (.tup [.int v]):=ae
   generalize upd H o (.tup [.int v])=H1 at s1 eo
   refine ⟨_,rfl,_,rfl,_,rfl,_,rfl,_,rfl,_,rfl,t,o,_,_,rfl,rfl,s1 _ _ et,eo,?_,λt2 H2 s2 e2 =>?_⟩
   ·exact aU (by rw[wd];show _+1<=_;lia)
   have s12:=s1.trans s2
   have e2':H2 t2=some (.tup ((T++[v]).map V.int)):=by rw[e2,wB];rfl
   refine ⟨_,rfl,_,rfl,a,_,2,_,rfl,rfl,SqT.of (s12 _ _ ea),rfl,df.mpr ⟨f',r,wa,t2,k,p,m,ts,ws,T++[v],Kp,c,x,rfl,CF,W.same s12,m2,hw.imp (s12 _ _) (s12 _ _),lw,e2',λu hu =>?_,by rw[wj];show _+1+_<=_;lia,s12 _ _ ek,by lia,hx.same s12,λv1 H3 s3 h1 =>?_⟩⟩
   ·rcases wC.mp hu with z | z
    ·exact tm u z
    ·rw[wx.mp z];exact ⟨op.1,op.2.1⟩
   have s13:=s12.trans s3
   refine ⟨_,rfl,_,rfl,_,rfl,_,rfl,_,rfl,_,rfl,_,rfl,k,o,_,_,rfl,rfl,s13 _ _ ek,s3 _ _ (s2 _ _ eo),?_,λk2 H4 s4 e4 =>?_⟩
   ·exact aU (by rw[wd];show _+1<=_;lia)
   have s14:=s13.trans s4
   have e4':H4 k2=some (.tup ((Kp++[v]).map V.int)):=by rw[e4,wB];rfl
   refine ⟨_,rfl,a,_,3,_,rfl,rfl,SqT.of (s14 _ _ ea),rfl,df.mpr ⟨f',r,wa,t,k2,p',m,ts,ws,T,Kp++[v],c,y,rfl,CF,W.same s14,m2,hw.imp (s14 _ _) (s14 _ _),lw,s14 _ _ et,tm,by lia,e4',by rw[wj];show _+1+_<=_;lia,hy.same s14,λv2 H5 s5 h2 =>?_⟩⟩
   refine ⟨_,rfl,_,rfl,fY.mpr ⟨v1,v2,_,_,rfl,h1.same (s4.trans s5),h2,λu hu=>q u H5 (s14.trans s5) hu⟩⟩
end
open PySem L2
abbrev oO:Sp:=λvs H Q _=>∃(r wa k a:Addr) (m:Nat) (ts:List (Addr×List Int)) (ws Kp:List Int) (c:Bool) (tr:Tr),vs=[.ref r,.ref wa,.ref k,.ref a]/\Wb H r m ts/\m<=200/\(H wa=some (.lst (ws.map V.int))\/H wa=some (.tup (ws.map V.int)))/\ws.length=m/\H k=some (.tup (Kp.map V.int))/\Kp.length<=200/\bK c H 45 a tr/\∀(v:V) (H':Hp),aK H H'->Shn H' v (shw m (ts.map (·.2)) ws [] Kp tr)->Q v H'
@[irreducible] def lh:Sp:=oO
theorem dg {vs:List V}{H:Hp}{Q:VK}{E:XK}:lh vs H Q E↔oO vs H Q E:=by
 delta lh
 exact yH
section
variable  {P:wL}{w:xg}{K:wc}{mg:Str->Option wm}{base:Heap}{f T:Addr}{fd:xB}
theorem mz:aO ["web", "weights", "kept", "tree"] ["web", "weights", "kept", "tree"] (aB fV):=⟨rfl,rfl,rfl,by decide +kernel,rfl,by decide +kernel,by decide +kernel⟩
theorem mC (F:Fun K "tree_shows" "tree_shows" fV f fd)(B:Blt mg)(cCaseShows:Cal P w K mg base 51 "case_shows" ["word", "closes", "web", "weights", "taken", "kept", "tree"] (fZ P w K mg base 46))(cIsRing:Cal P w K mg base 3 "is_ring" ["web", "ring"] bP):bF P w K mg base CX0 52 f fd ["web", "weights", "kept", "tree"] lh:=by
 refine F.ok mz (λvs H Q E h =>?_) (λcdv A outer s H vs Q E hr h =>?_)
 ·obtain ⟨_,_,_,_,_,_,_,_,_,_,rfl,_⟩:=dg.mp h
  rfl
 obtain ⟨r,wa,k,a,m,ts,ws,Kp,c,tr,rfl,W,m2,hw,lw,ek,lk,ht,q⟩:=dg.mp h
 obtain ⟨f',hm,CF⟩:=cIsRing.val
 refine ⟨_,(@ai _ _ _ (@au _ _ _ _ (aq cCaseShows hr (by decide) rfl (@aa _ _ _ _ _ aV (@aa _ _ _ _ _ (sq (v :=.ref f') rfl hm rfl) (@aa _ _ _ _ _ (pv 0) (@aa _ _ _ _ _ (pv 1) (@aa _ _ _ _ _ (@aQ _ _ _ _ _ af) (@aa _ _ _ _ _ (pv 2) (@aa _ _ _ _ _ (pv 3) af rfl) rfl) rfl) rfl) rfl) rfl) rfl)))),?_⟩
 refine ⟨_,rfl,_,rfl,(by show 0<=wo;decide),λt ht' =>?_⟩
 have s1:=ab ht' (.tup [])
 refine ⟨_,rfl,_,rfl,df.mpr ⟨f',r,wa,t,k,a,m,ts,ws,[],Kp,c,tr,rfl,CF,W.same s1,m2,hw.imp (s1 _ _) (s1 _ _),lw,ae,(λv h=>nomatch h),by decide,s1 _ _ ek,by lia,ht.same s1,λv H' s' h=>q v H' (s1.trans s') h⟩⟩
end
theorem hJ {c A:Prop}[Decidable c]{P:St->Hp->Prop}{σ:St}{H:Hp}(G:St->Hp->Prop)(hP:∀σ' H',G σ' H'->P σ' H')(h1:(∀σ' H',G σ' H'->P σ' H')->c->A)(h2:¬ c->G σ H):if c then A else P σ H:=by
 by_cases h:c
 ·rw[if_pos h];exact h1 hP h
 ·rw[if_neg h];exact hP σ H (h2 h)
abbrev Big (m:Int):Prop:=0<m/\m<2 ^ 200
theorem aG {m:Int}(h0:0<m)(h1:m<1000000):Big m:=⟨h0,Int.lt_trans h1 (by decide)⟩
abbrev oP:Sp:=λvs H Q _=>∃c m:Int,vs=[.int c,.int m]/\0<=m/\m<=1000/\∀n:Int,Q (.int n) H
@[irreducible] def lj:Sp:=oP
theorem ef {vs:List V}{H:Hp}{Q:VK}{E:XK}:lj vs H Q E↔oP vs H Q E:=by
 delta lj
 exact yH
section
variable  {P:wL}{w:xg}{K:wc}{mg:Str->Option wm}{base:Heap}{f T:Addr}{fd:xB}
theorem eC:aO ["cell", "many", "number", "one", "k", "two"] ["cell", "many"] (aB nF):=⟨rfl,rfl,rfl,by decide +kernel,rfl,by decide +kernel,by decide +kernel⟩
theorem tR (F:Fun K "_law_deal" "_law_deal" nF f fd)(B:Blt mg):bF P w K mg base CX0 1 f fd ["cell", "many"] lj:=by
 refine F.ok eC (λvs H Q E h =>?_) (λcdv A outer s H vs Q E hr h =>?_)
 ·obtain ⟨_,_,rfl,_⟩:=ef.mp h
  rfl
 obtain ⟨c,m,rfl,m0,m1,q⟩:=ef.mp h
 refine ⟨_,(@ah _ _ _ _ _ (@aN _ _ _ _ _ _ _ _ (aj oe (pv 0) (@aE _ _ _ _ _ _ _ _ mP ag ag) (ax _)) (@ai _ _ _ (@au _ _ _ _ (@aE _ _ _ _ _ _ _ _ cY (pv 0) (@aE _ _ _ _ _ _ _ _ mP ag ag)))) az)
  (@ah _ _ _ _ _ (@aH _ _ 2 _ _ _ _ eC.nd rfl (Or.inl rfl) ag rfl (by first | exact .inl rfl | exact .inr rfl | assumption))
  (@ah _ _ _ _ _ (@aH _ _ 3 _ _ _ _ eC.nd rfl (Or.inl rfl) (@aE _ _ _ _ _ _ _ _ dN (@aE _ _ _ _ _ _ _ _ gM (@aE _ _ _ _ _ _ _ _ bh (@aE _ _ _ _ _ _ _ _ dN (pv 0) ag) ag) ag) ag) rfl (by first | exact .inl rfl | exact .inr rfl | assumption))
  (@ah _ _ _ _ _ (@cv _ _ _ _ _ _ _ _ xN rfl (bz rfl B.b_range (@aa _ _ _ _ _ (pv 1) af rfl)) (aD (i:=4) eC.nd rfl (Or.inl rfl))
   (@ah _ _ _ _ _ (@aH _ _ 3 _ _ _ _ eC.nd rfl (Or.inl rfl) (@aE _ _ _ _ _ _ _ _ dN (@aE _ _ _ _ _ _ _ _ bh (@aE _ _ _ _ _ _ _ _ bh (@aE _ _ _ _ _ _ _ _ gM (pv 3) ag) (pv 4)) ag) ag) rfl (by first | exact .inl rfl | exact .inr rfl | assumption))
   (@ah _ _ _ _ _ (@aH _ _ 5 _ _ _ _ eC.nd rfl (Or.inl rfl) (@aE _ _ _ _ _ _ _ _ dN (@aE _ _ _ _ _ _ _ _ gM (pv 3) (pv 3)) ag) rfl (by first | exact .inl rfl | exact .inr rfl | assumption))
   (@ai _ _ _ (@aH _ _ 2 _ _ _ _ eC.nd rfl (Or.inl rfl) (@aE _ _ _ _ _ _ _ _ bh (@aE _ _ _ _ _ _ _ _ gM (pv 2) ag) (@aE _ _ _ _ _ _ _ _ dN (@aE _ _ _ _ _ _ _ _ bh (@aE _ _ _ _ _ _ _ _ sv (pv 5) ag) (pv 5)) ag)) rfl (by first | exact .inl rfl | exact .inr rfl | assumption))))) (λ_=>rfl))
  (@ai _ _ _ (@au _ _ _ _ (pv 2))))))),?_⟩
 refine ⟨_,rfl,_,_,rfl,rfl,⟨by decide,by decide,by decide⟩,_,_,rfl,rfl,_,rfl,bN (λz =>?_) (λz =>?_)⟩
 ·exact ⟨_,rfl,_,_,rfl,rfl,⟨by decide,by decide,by decide⟩,_,_,rfl,rfl,q _⟩
 refine ⟨_,rfl,_,_,rfl,rfl,(by show (0:Int)<_;decide),_,_,rfl,rfl,_,_,rfl,rfl,.inr ⟨by decide,by decide⟩,_,_,rfl,rfl,(by show (0:Int)<_;decide),?_⟩
 generalize (c%2147483647+977)*69621%2147483647=o
 let W0:Nat->St->Hp->Prop:=λk σ H'=>(∃(gr on:Int) (c4 c5:Option V),σ=[some (.int c),some (.int m),some (.int gr),some (.int on),c4,c5])/\H'=H
 refine ⟨_,rfl,m,rfl,by lia,by lia,dF W0 ⟨⟨_,_,_,_,rfl⟩,rfl⟩ ?_ ?_⟩
 ·rintro k σ H' hk ⟨⟨gr,on,c4,c5,rfl⟩,rfl⟩
  have hk':(k:Int)<m:=by lia
  refine ⟨_,rfl,_,_,rfl,rfl,.inr ⟨by decide,by decide⟩,_,rfl,_,_,rfl,rfl,_,_,rfl,rfl,_,_,rfl,rfl,(by show (0:Int)<_;decide),?_⟩
  have d1:=AK (on*48271+(0+(k:Int))+1) (b:=2147483647) (by decide)
  have d2:=Af (on*48271+(0+(k:Int))+1) (b:=2147483647) (by decide)
  generalize (on*48271+(0+(k:Int))+1)%2147483647=o2 at d1 d2 ⊢
  refine ⟨_,rfl,_,rfl,_,_,rfl,rfl,.inl ⟨by lia,by lia⟩,_,_,rfl,rfl,(by show (0:Int)<_;decide),?_⟩
  exact ⟨_,rfl,_,_,rfl,rfl,.inr ⟨by decide,by decide⟩,_,rfl,_,_,rfl,rfl,⟨by decide,by decide⟩,_,rfl,_,_,rfl,rfl,_,_,rfl,rfl,(by show (0:Int)<_;decide),_,_,rfl,rfl,⟨_,_,_,_,rfl⟩,rfl⟩
 ·rintro σ H' ⟨⟨gr,on,c4,c5,rfl⟩,rfl⟩
  exact ⟨_,rfl,q _⟩
end
abbrev oQ:Sp:=λvs H Q _=>∃(p:Addr) (m:Int),vs=[.ref p,.int m]/\Pt 1 H p/\Big m/\∀(d:Int) (H':Hp),0<=d->d<m->Bu 1 p H H'->Q (.int d) H'
@[irreducible] def cC:Sp:=oQ
theorem aA {vs:List V}{H:Hp}{Q:VK}{E:XK}:cC vs H Q E↔oQ vs H Q E:=by
 delta cC
 exact yH
section
variable  {P:wL}{w:xg}{K:wc}{mg:Str->Option wm}{base:Heap}{f T:Addr}{fd:xB}
theorem oR:aO ["pot", "many", "digit"] ["pot", "many"] (aB nG):=⟨rfl,rfl,rfl,by decide +kernel,rfl,by decide +kernel,by decide +kernel⟩
theorem tS (F:Fun K "_law_take" "_law_take" nG f fd)(B:Blt mg):bF P w K mg base CX0 1 f fd ["pot", "many"] cC:=by
 refine F.ok oR (λvs H Q E h =>?_) (λcdv A outer s H vs Q E hr h =>?_)
 ·obtain ⟨_,_,rfl,_⟩:=aA.mp h
  rfl
 obtain ⟨p,m,rfl,hp,hm,q⟩:=aA.mp h
 refine ⟨_,(@ah _ _ _ _ _ (@iQ _ _ _ _ _ _ (ao kE rfl B.b_divmod qf (@aa _ _ _ _ _ (@ay _ _ _ _ _ _ _ bC (pv 0) ag (λ_ _=>rfl)) (@aa _ _ _ _ _ (pv 1) af rfl) rfl)) (gL rfl (bH (mN (pv 0) ag set_list) (bH (aD (i:=2) oR.nd rfl (Or.inl rfl)) fu))) rfl rfl rfl)
  (@ai _ _ _ (@au _ _ _ _ (pv 2)))),?_⟩
 have bt:=Bu.refl hp
 obtain ⟨xs,lx,ep⟩:=hp
 match xs,lx with
 | [x],_ =>
  refine ⟨_,rfl,p,_,0,_,rfl,rfl,SqL.of ep,rfl,_,rfl,_,_,rfl,hm,λo ho=>⟨o,_,rfl,SqT.of ae,rfl,_,_,rfl,_,rfl,p,_,0,0,rfl,rfl,(ab ho _) _ _ ep,rfl,_,_,rfl,rfl,?_⟩⟩
  exact ⟨_,rfl,q _ _ (AK _ (by have:=hm.1;lia)) (Af _ hm.1) ((bt.same (ab ho _)).put (ys:=[x/m]) rfl)⟩
end
theorem bq {p l:Addr}{H:Hp}(hp:Pt 1 H p)(hl:H l=none):l≠p:=λz=>by
 obtain ⟨xs,_,e⟩:=hp
 rw[z,e] at hl;cases hl
theorem vg {K:wc}{H:Hp}{l:Addr}{m:Nat}{us:List (Addr×List Int)}{Q:VK}(el:H l=some (.lst (us.map λu =>.ref u.1)))(tu:Tus H us)(pu:∀u∈us,∃a b:Int,u.2=[a,b]/\0<=a/\a<=b/\b<m)(lu:us.length<=200)
  (q:∀(r:Addr) (ts:List (Addr×List Int)) (H':Hp),aK H H'->Wb H' r m ts->Q (.ref r) H'):∃(p:Addr) (ts:List (Addr×List Int)),[V.ref l]=[.ref p]/\(SqL K H p (ts.map λt =>.ref t.1)\/SqT K H p (ts.map λt =>.ref t.1))/\(∀t∈ts,SqT K H t.1 (t.2.map V.int)/\t.2≠[]) ∧
  ∀(l2:Addr) (out:List (Addr×List Int)),H l2=none->out.Perm ts->out.Pairwise (λa b=>HT.lexLt b.2 a.2=false)->∃p ys,[V.ref l2]=[.ref p]/\((SqL K (upd H l2 (.lst (out.map λt =>.ref t.1))) p ys/\∀l3,upd H l2 (.lst (out.map λt =>.ref t.1)) l3=none->(2<=wo/\∀r,upd (upd H l2 (.lst (out.map λt =>.ref t.1))) l3 (.tup ys) r=none->Q (.ref r) (upd (upd (upd H l2 (.lst (out.map λt =>.ref t.1))) l3 (.tup ys)) r (.tup [.int m,.ref l3]))))\/(SqT K (upd H l2 (.lst (out.map λt =>.ref t.1))) p ys/\(2<=wo/\∀r,upd H l2 (.lst (out.map λt =>.ref t.1)) r=none->Q (.ref r) (upd (upd H l2 (.lst (out.map λt =>.ref t.1))) r (.tup [.int m,.ref p]))))):=by
 refine ⟨l,us,rfl,.inl (SqL.of el),λt ht=>⟨SqT.of (tu t ht),λz =>?_⟩,λl2 out hl2 pm _=>⟨l2,_,rfl,.inl ⟨SqL.of ae,λl3 hl3=>⟨by decide,λr hr =>?_⟩⟩⟩⟩
 ·obtain ⟨a,b,e,_⟩:=pu t ht
  rw[e] at z;cases z
 ·have s1:=ab hl2 (.lst (out.map λt=>V.ref t.1))
  have s2:=ab hl3 (.tup (out.map λt=>V.ref t.1))
  have s3:=ab hr (.tup [.int m,.ref l3])
  refine q r out _ (s1.trans (s2.trans s3)) ⟨⟨l3,ae,s3 _ _ ae⟩,λu hu=>s3 _ _ (s2 _ _ (s1 _ _ (tu u (pm.mem_iff.mp hu)))),λu hu=>pu u (pm.mem_iff.mp hu),by rw[pm.length_eq];exact lu⟩
abbrev rQ:Sp:=λvs H Q _=>∃(p:Addr) (mo:Nat),vs=[.ref p,.int mo]/\Pt 1 H p/\mo<=40/\∀(r:Addr) (m:Nat) (ts:List (Addr×List Int)) (H':Hp),Bu 1 p H H'->Wb H' r m ts->m<=mo->Q (.ref r) H'
@[irreducible] def oS:Sp:=rQ
theorem hV {vs:List V}{H:Hp}{Q:VK}{E:XK}:oS vs H Q E↔rQ vs H Q E:=by
 delta oS
 exact yH
section
variable  {P:wL}{w:xg}{K:wc}{mg:Str->Option wm}{base:Heap}{f T:Addr}{fd:xB}
theorem hW:aO ["pot", "most", "many", "ties", "k", "one", "other"] ["pot", "most"] (aB rF):=⟨rfl,rfl,rfl,by decide +kernel,rfl,by decide +kernel,by decide +kernel⟩
theorem vh (F:Fun K "_law_web" "_law_web" rF f fd)(B:Blt mg)(cLTake:Cal P w K mg base 1 "_law_take" ["pot", "many"] cC):bF P w K mg base CX0 2 f fd ["pot", "most"] oS:=by
 refine F.ok hW (λvs H Q E h =>?_) (λcdv A outer s H vs Q E hr h =>?_)
 ·obtain ⟨_,_,rfl,_⟩:=hV.mp h
  rfl
 obtain ⟨p,mo,rfl,hp,mo4,q⟩:=hV.mp h
 refine ⟨_,(@ah _ _ _ _ _ (@aH _ _ 2 _ _ _ _ hW.nd rfl (Or.inl rfl) (aq cLTake hr (by decide) rfl (@aa _ _ _ _ _ (pv 0) (@aa _ _ _ _ _ (@aE _ _ _ _ _ _ _ _ bh (pv 1) ag) af rfl) rfl)) rfl (by first | exact .inl rfl | exact .inr rfl | assumption))
  (@ah _ _ _ _ _ (@aH _ _ 3 _ _ _ _ hW.nd rfl (Or.inl rfl) (@aI _ _ _ _ af) rfl (by first | exact .inl rfl | exact .inr rfl | assumption))
  (@ah _ _ _ _ _ (@aN _ _ _ _ _ _ _ _ (aj iS (pv 2) ag (ax _)) (@ai _ _ _ (@cv _ _ _ _ _ _ _ _ xN rfl (bz rfl B.b_range (@aa _ _ _ _ _ (aq cLTake hr (by decide) rfl (@aa _ _ _ _ _ (pv 0) (@aa _ _ _ _ _ (ao (cS rfl) rfl B.b_min dZ (@aa _ _ _ _ _ ag (@aa _ _ _ _ _ (@aE _ _ _ _ _ _ _ _ bh (@aE _ _ _ _ _ _ _ _ gM ag (pv 2)) ag) af rfl) rfl)) af rfl) rfl)) af rfl)) (aD (i:=4) hW.nd rfl (Or.inl rfl))
    (@ah _ _ _ _ _ (@aH _ _ 5 _ _ _ _ hW.nd rfl (Or.inl rfl) (aq cLTake hr (by decide) rfl (@aa _ _ _ _ _ (pv 0) (@aa _ _ _ _ _ (pv 2) af rfl) rfl)) rfl (by first | exact .inl rfl | exact .inr rfl | assumption))
    (@ah _ _ _ _ _ (@aH _ _ 6 _ _ _ _ hW.nd rfl (Or.inl rfl) (aq cLTake hr (by decide) rfl (@aa _ _ _ _ _ (pv 0) (@aa _ _ _ _ _ (pv 2) af rfl) rfl)) rfl (by first | exact .inl rfl | exact .inr rfl | assumption))
    (@ai _ _ _ (iA (oj zw zg zh fz (pv 3) (@aa _ _ _ _ _ (@aQ _ _ _ _ _ (@aa _ _ _ _ _ (ao (cS rfl) rfl B.b_min dZ (@aa _ _ _ _ _ (pv 5) (@aa _ _ _ _ _ (pv 6) af rfl) rfl)) (@aa _ _ _ _ _ (ao (fv rfl) rfl B.b_max js (@aa _ _ _ _ _ (pv 5) (@aa _ _ _ _ _ (pv 6) af rfl) rfl)) af rfl) rfl)) af rfl)))))) (λ_=>rfl))) az)
  (@ai _ _ _ (@au _ _ _ _ (@aQ _ _ _ _ _ (@aa _ _ _ _ _ (pv 2) (@aa _ _ _ _ _ (bb cj rfl B.b_tuple da (@aa _ _ _ _ _ (ao gu rfl B.b_sorted kn (@aa _ _ _ _ _ (pv 3) af rfl)) af rfl)) af rfl) rfl))))))),?_⟩
 refine ⟨_,rfl,_,rfl,_,_,rfl,rfl,aA.mpr ⟨p,(mo:Int)+1,rfl,hp,aG (by lia) (by lia),λd H1 d0 d1 b1 =>?_⟩⟩
 obtain ⟨m,rfl⟩:∃m:Nat,d=m:=⟨d.toNat,by lia⟩
 refine ⟨(by show 0<=wo;decide),λl hl =>?_⟩
 have nl:l≠p:=bq b1.pot hl
 have b2:=b1.same (ab hl (.lst []))
 have el2:upd H1 l (.lst []) l=some (.lst []):=ae
 generalize upd H1 l (.lst [])=H2 at b2 el2
 refine ⟨_,rfl,_,_,rfl,rfl,_,rfl,hJ (λσ H'=>(∃c4 c5 c6,σ=[some (.ref p),some (.int mo),some (.int m),some (.ref l),c4,c5,c6])/\Bu 1 p H H'/\∃us:List (Addr×List Int),H' l=some (.lst (us.map λu =>.ref u.1))/\Tus H' us/\(∀u∈us,∃a b:Int,u.2=[a,b]/\0<=a/\a<=b/\b<m)/\us.length<=200) ?_ (λhP z =>?_) λz=>⟨⟨_,_,_,rfl⟩,b2,[],el2,(λu h=>nomatch h),(λu h=>nomatch h),by decide⟩⟩
 ·rintro σ H3 ⟨⟨c4,c5,c6,rfl⟩,b3,us,el,tu,pu,lu⟩
  exact ⟨_,rfl,_,rfl,vg el tu pu lu λr ts H' s' W=>q r m ts H' (b3.same s') W (by lia)⟩
 have m0:0<m:=by have:=of_decide_eq_true z;lia
 refine ⟨_,rfl,_,rfl,_,_,rfl,rfl,.inl ⟨by decide,by decide⟩,_,_,rfl,rfl,_,_,rfl,aA.mpr ⟨p,_,rfl,b2.pot,aG (by split <;> lia) (by split <;> lia),λn H3 n0 n1 b3 =>?_⟩⟩
 have el3:=b3.st _ _ nl el2
 have n15:n<16:=by split at n1 <;> lia
 let W1:Nat->St->Hp->Prop:=λk σ H'=>(∃c4 c5 c6,σ=[some (.ref p),some (.int mo),some (.int m),some (.ref l),c4,c5,c6])/\Bu 1 p H H'/\∃us:List (Addr×List Int),H' l=some (.lst (us.map λu =>.ref u.1))/\Tus H' us/\(∀u∈us,∃a b:Int,u.2=[a,b]/\0<=a/\a<=b/\b<m)/\us.length<=k
 refine ⟨n,rfl,by lia,by lia,dF W1 ⟨⟨_,_,_,rfl⟩,b2.trans b3,[],el3,(λu h=>nomatch h),(λu h=>nomatch h),wq _⟩ ?_ ?_⟩
 ·rintro k σ H4 hk ⟨⟨c4,c5,c6,rfl⟩,b4,us,el4,tu4,pu4,lu⟩
  refine ⟨_,rfl,_,rfl,aA.mpr ⟨p,m,rfl,b4.pot,aG (by lia) (by lia),λx H5 x0 x1 b5 =>?_⟩⟩
  have b45:=b4.trans b5
  refine ⟨_,rfl,_,rfl,aA.mpr ⟨p,m,rfl,b5.pot,aG (by lia) (by lia),λy H6 y0 y1 b6 =>?_⟩⟩
  have b46:=b45.trans b6
  have el6:=b6.st _ _ nl (b5.st _ _ nl el4)
  have tu6:=(tu4.bu b5 b4.pot).bu b6 b5.pot
  refine ⟨_,rfl,.inl ⟨rfl,_,SqL.of el6⟩,_,rfl,_,rfl,_,_,rfl,_,rfl,_,rfl,_,_,rfl,(by show 2<=wo;decide),λt ht =>?_⟩
  have gt:=ab ht (.tup [.int (if y<x then y else x),.int (if y>x then y else x)])
  have nt:t≠l:=λz=>by rw[z,el6] at ht;cases ht
  have hl0:H l=none:=by
   cases h:H l with
   | none=>rfl
   | some o=>rw[b1.st _ _ nl h] at hl;cases hl
  have el7:=gt _ _ el6
  refine ⟨l,_,_,rfl,rfl,el7,gZ (by rw[wd];lia),⟨_,_,_,rfl⟩,(b46.same gt).dW hl0 nl _,us++[(t,[if y<x then y else x,if y>x then y else x])],by rw[ae,wB];rfl,λu hu =>?_,λu hu =>?_,by rw[wj];show _+1<=_;lia⟩
  ·rcases wC.mp hu with z | z
   ·rw[aF (jP (gt _ _ (tu6 u z)) el7 nofun)];exact gt _ _ (tu6 u z)
   ·rw[wx.mp z,aF nt,ae];rfl
  ·rcases wC.mp hu with z | z
   ·exact pu4 u z
   ·rw[wx.mp z]
    exact ⟨_,_,rfl,by split <;> lia,by split <;> split <;> lia,by split <;> lia⟩
 ·rintro σ H4 ⟨⟨c4,c5,c6,rfl⟩,b4,us,el4,tu4,pu4,lu⟩
  exact hP _ _ ⟨⟨_,_,_,rfl⟩,b4,us,el4,tu4,pu4,by lia⟩
end
theorem at4 {d:Int}(d0:0<=d)(d1:d<4):∃v:Int,atI [V.int 1,V.int 4,V.int 9,V.int (10 ^ (60:Int).toNat-2)] d=some (.int v)/\Big (v+1):=by
 obtain rfl | rfl | rfl | rfl:d=0\/d=1\/d=2\/d=3:=by lia
 all_goals exact ⟨_,rfl,by decide +kernel,by decide +kernel⟩
theorem rep1:∀m:Nat,(xA m [V.int 1]).flatten=(xA m (1:Int)).map V.int
 | 0=>rfl
 | m+1=>by rw[ye,yu,rep1 m,ye];rfl
abbrev jw:Sp:=λvs H Q _=>∃(p:Addr) (m:Nat),vs=[.ref p,.int m]/\Pt 1 H p/\m<=40/\∀(l:Addr) (ws:List Int) (H':Hp),Bu 1 p H H'->H l=none->l≠p->H' l=some (.lst (ws.map V.int))->ws.length=m->Q (.ref l) H'
@[irreducible] def fF:Sp:=jw
theorem dz {vs:List V}{H:Hp}{Q:VK}{E:XK}:fF vs H Q E↔jw vs H Q E:=by
 delta fF
 exact yH
section
variable  {P:wL}{w:xg}{K:wc}{mg:Str->Option wm}{base:Heap}{f T:Addr}{fd:xB}
theorem jx:aO ["pot", "many", "size"] ["pot", "many"] (aB gY):=⟨rfl,rfl,rfl,by decide +kernel,rfl,by decide +kernel,by decide +kernel⟩
theorem eN:(["k", "pot", "size"]:List Str).Nodup:=by decide +kernel
theorem nO (F:Fun K "_law_weights" "_law_weights" gY f fd)(B:Blt mg)(cLTake:Cal P w K mg base 1 "_law_take" ["pot", "many"] cC):bF P w K mg base CX0 2 f fd ["pot", "many"] fF:=by
 refine F.ok jx (λvs H Q E h =>?_) (λcdv A outer s H vs Q E hr h =>?_)
 ·obtain ⟨_,_,rfl,_⟩:=dz.mp h
  rfl
 obtain ⟨p,m,rfl,hp,m4,q⟩:=dz.mp h
 refine ⟨_,(@ah _ _ _ _ _ (@aH _ _ 2 _ _ _ _ jx.nd rfl (Or.inr rfl) (@ay _ _ _ _ _ _ _ bC (@aI _ _ _ _ (@aa _ _ _ _ _ ag (@aa _ _ _ _ _ ag (@aa _ _ _ _ _ ag (@aa _ _ _ _ _ (@aE _ _ _ _ _ _ _ _ cY (@aE _ _ _ _ _ _ _ _ mP ag ag) ag) af rfl) rfl) rfl) rfl)) (aq cLTake hr (by decide) rfl (@aa _ _ _ _ _ (pv 0) (@aa _ _ _ _ _ ag af rfl) rfl)) (λ_ _=>rfl)) rfl (by first | exact .inl rfl | exact .inr rfl | assumption))
  (@ah _ _ _ _ _ (@aN _ _ _ _ _ _ _ _ (aj bo (pv 2) ag (ax _)) (@ai _ _ _ (@au _ _ _ _ (@aE _ _ _ _ _ _ _ _ qK (@aI _ _ _ _ (@aa _ _ _ _ _ ag af rfl)) (pv 1)))) az)
  (@ai _ _ _ (@au _ _ _ _ (bD ["k", "pot", "size"] [none,some 0,some 2] rfl (bz rfl B.b_range (@aa _ _ _ _ _ (pv 1) af rfl)) rfl (λ_ _ _ _ _=>(aD (i:=0) eN rfl (Or.inl rfl))) (λ_ _ _ _ _=>bQ) (λ_ _ _ _ _=>(aq cLTake hr (by decide) rfl (@aa _ _ _ _ _ (pv 1) (@aa _ _ _ _ _ (@aE _ _ _ _ _ _ _ _ bh (pv 2) ag) af rfl) rfl)))))))),?_⟩
 refine ⟨_,_,rfl,rfl,⟨by decide,by decide,by decide⟩,_,_,rfl,rfl,(by show 4<=wo;decide),λc hc =>?_⟩
 have nc:=bq hp hc
 have b1:=(Bu.refl hp).same (ab hc (.lst [.int 1,.int 4,.int 9,.int (10 ^ (60:Int).toNat-2)]))
 have ec:upd H c (.lst [.int 1,.int 4,.int 9,.int (10 ^ (60:Int).toNat-2)]) c=some (.lst [.int 1,.int 4,.int 9,.int (10 ^ (60:Int).toNat-2)]):=ae
 generalize upd H c (.lst [.int 1,.int 4,.int 9,.int (10 ^ (60:Int).toNat-2)])=H1 at b1 ec
 refine ⟨_,rfl,aA.mpr ⟨p,4,rfl,b1.pot,aG (by decide) (by decide),λd H2 d0 d1 b2 =>?_⟩⟩
 obtain ⟨sz,hs,bs⟩:=at4 d0 d1
 have b12:=b1.trans b2
 refine ⟨c,_,d,_,rfl,rfl,SqL.of (b2.st _ _ nc ec),hs,?_⟩
 have fr:∀{a:Addr} {H':Hp},Bu 1 p H H'->H' a=none->a≠p->H a=none:=λ{a H'} b ha n=>by
  cases h:H a with
  | none=>rfl
  | some o=>rw[b.st _ _ n h] at ha;cases ha
 refine ⟨_,rfl,rfl,_,rfl,bN (λz =>?_) λz =>?_⟩
 ·refine ⟨(by show 1<=wo;decide),λo ho =>?_⟩
  have no:=bq b12.pot ho
  have b3:=b12.same (ab ho (.lst [.int 1]))
  refine ⟨_,rfl,o,_,_,rfl,rfl,ae,by lia,by lia,aU (by show 1*(m:Int).toNat<=5000;lia),λl hl =>?_⟩
  have nl:=bq b3.pot hl
  refine q l (xA m 1) _ (b3.same (ab hl _)) (fr b3 hl nl) nl ?_ As
  rw[ae, <- rep1,show (m:Int).toNat=m by lia]
 ·refine ⟨_,rfl,(m:Int),rfl,by lia,by lia,bI (λi ys H'=>Bu 1 p H H'/\∃ws:List Int,ys=ws.map V.int/\ws.length=i) ⟨b12,[],rfl,rfl⟩ (aU (by lia)) ?_ ?_⟩
  ·rintro i ys H3 hi _ ⟨b3,ws,rfl,lw⟩ R1 R0 r1 r0
   refine aS ⟨_,rfl,_,rfl,_,_,rfl,rfl,(aA (E:=E0)).mpr ⟨p,sz+1,rfl,b3.pot,bs,λx H4 x0 x1 b4=>r1 _ _ ⟨b3.trans b4,ws++[x],by rw[wB];rfl,by rw[wj,lw];rfl⟩⟩⟩
  ·rintro ys H3 _ ⟨b3,ws,rfl,lw⟩ l hl
   have nl:=bq b3.pot hl
   exact q l ws _ (b3.same (ab hl _)) (fr b3 hl nl) nl ae (by lia)
end
abbrev mD:Sp:=λvs H Q _=>∃(p:Addr) (m:Nat),vs=[.ref p,.int m]/\Pt 1 H p/\m<=40/\∀(k:Addr) (Kp:List Int) (H':Hp),Bu 1 p H H'->H' k=some (.tup (Kp.map V.int))->(∀v∈Kp,0<=v/\v<m)->Kp.length<=m->Q (.ref k) H'
@[irreducible] def iI:Sp:=mD
theorem fh {vs:List V}{H:Hp}{Q:VK}{E:XK}:iI vs H Q E↔mD vs H Q E:=by
 delta iI
 exact yH
section
variable  {P:wL}{w:xg}{K:wc}{mg:Str->Option wm}{base:Heap}{f T:Addr}{fd:xB}
theorem oT:aO ["pot", "many", "share"] ["pot", "many"] (aB nH):=⟨rfl,rfl,rfl,by decide +kernel,rfl,by decide +kernel,by decide +kernel⟩
theorem dI:(["place", "pot", "share"]:List Str).Nodup:=by decide +kernel
theorem tT (F:Fun K "_law_kept" "_law_kept" nH f fd)(B:Blt mg)(cLTake:Cal P w K mg base 1 "_law_take" ["pot", "many"] cC):bF P w K mg base CX0 2 f fd ["pot", "many"] iI:=by
 refine F.ok oT (λvs H Q E h =>?_) (λcdv A outer s H vs Q E hr h =>?_)
 ·obtain ⟨_,_,rfl,_⟩:=fh.mp h
  rfl
 obtain ⟨p,m,rfl,hp,m4,q⟩:=fh.mp h
 refine ⟨_,(@ah _ _ _ _ _ (@aH _ _ 2 _ _ _ _ oT.nd rfl (Or.inr rfl) (@aE _ _ _ _ _ _ _ _ bh ag (aq cLTake hr (by decide) rfl (@aa _ _ _ _ _ (pv 0) (@aa _ _ _ _ _ ag af rfl) rfl))) rfl (by first | exact .inl rfl | exact .inr rfl | assumption))
  (@ai _ _ _ (@au _ _ _ _ (bb cj rfl B.b_tuple da (@aa _ _ _ _ _ (bD ["place", "pot", "share"] [none,some 0,some 2] rfl (bz rfl B.b_range (@aa _ _ _ _ _ (pv 1) af rfl)) rfl (λ_ _ _ _ _=>(aD (i:=0) dI rfl (Or.inl rfl))) (λ_ _ _ _ _=>(iX (aj bo (aq cLTake hr (by decide) rfl (@aa _ _ _ _ _ (pv 1) (@aa _ _ _ _ _ (pv 2) af rfl) rfl)) ag (ax _)))) (λ_ _ _ _ _=>(pv 0))) af rfl))))),?_⟩
 refine ⟨_,rfl,aA.mpr ⟨p,5,rfl,hp,aG (by decide) (by decide),λd H1 d0 d1 b1=>⟨_,_,rfl,rfl,?_⟩⟩⟩
 refine ⟨_,rfl,(m:Int),rfl,by lia,by lia,bI (λi ys H'=>Bu 1 p H H'/\∃ws:List Int,ys=ws.map V.int/\(∀v∈ws,0<=v/\v<m)/\ws.length<=i) ⟨b1,[],rfl,(λv h=>nomatch h),wq _⟩ (aU (by lia)) ?_ ?_⟩
 ·rintro i ys H3 hi _ ⟨b3,ws,rfl,aw,lw⟩ R1 R0 r1 r0
  refine ⟨_,rfl,_,rfl,(aA (E:=E0)).mpr ⟨p,2+d,rfl,b3.pot,aG (by lia) (by lia),λx H4 x0 x1 b4=>⟨rfl,_,rfl,bN (λz =>?_) λz =>?_⟩⟩⟩
  ·refine ⟨_,rfl,r1 _ _ ⟨b3.trans b4,ws++[0+(i:Int)],by rw[wB];rfl,λv hv =>?_,by rw[wj];show _+1<=_;lia⟩⟩
   rcases wC.mp hv with z | z
   ·exact aw v z
   ·rw[wx.mp z];lia
  ·exact r0 _ ⟨b3.trans b4,ws,rfl,aw,by lia⟩
 ·rintro ys H3 _ ⟨b3,ws,rfl,aw,lw⟩ l hl
  have s4:=ab hl (.lst (ws.map V.int))
  refine ⟨l,_,rfl,.inl ⟨SqL.of ae,λk hk=>q k ws _ ((b3.same s4).same (ab hk _)) ae aw (by lia)⟩⟩
end
open PySem L2
section
variable  {P:wL}{w:xg}{K:wc}{mg:Str->Option wm}{base:Heap}{f T:Addr}{fd:xB}
theorem rR:aO ["web", "one", "other"] ["web", "one", "other"] (aB kU):=⟨rfl,rfl,rfl,by decide +kernel,rfl,by decide +kernel,by decide +kernel⟩
theorem rS (F:Fun K "_law_times" "_law_times" kU f fd)(B:Blt mg):bF P w K mg base CX0 1 f fd ["web", "one", "other"] d7:=by
 refine F.ok rR (λvs H Q E h =>?_) (λcdv A outer s H vs Q E hr h =>?_)
 ·obtain ⟨_,_,_,_,_,rfl,_⟩:=bE.mp h
  rfl
 obtain ⟨r,m,a,b,ts,rfl,W,q⟩:=bE.mp h
 refine ⟨_,(@ai _ _ _ (@au _ _ _ _ (rz z7 Bn (jg (hu8 hr)) (@ay _ _ _ _ _ _ _ av (pv 0) ag (λ_ _=>rfl)) (@aa _ _ _ _ _ (@aQ _ _ _ _ _ (@aa _ _ _ _ _ (ao (cS rfl) rfl B.b_min dZ (@aa _ _ _ _ _ (pv 1) (@aa _ _ _ _ _ (pv 2) af rfl) rfl)) (@aa _ _ _ _ _ (ao (fv rfl) rfl B.b_max js (@aa _ _ _ _ _ (pv 1) (@aa _ _ _ _ _ (pv 2) af rfl) rfl)) af rfl) rfl)) af rfl)))),?_⟩
 obtain ⟨t,e1,e2⟩:=W.at'
 refine ⟨_,rfl,r,_,1,_,rfl,rfl,SqT.of e1,rfl,⟨_,_,rfl,e2⟩,_,rfl,_,rfl,_,_,rfl,_,rfl,_,rfl,_,_,rfl,(by show 2<=wo;decide),λx hx =>?_⟩
 have s1:=ab hx (.tup ((nrm a b).map V.int))
 exact ⟨t,x,ts,nrm a b,rfl,rfl,s1 _ _ e2,λu hu=>s1 _ _ (W.tup u hu),ae,q _ s1⟩
end
abbrev rT:Sp:=λvs H Q _=>∃(r p:Addr) (m:Nat) (ts:List (Addr×List Int)) (Z:List Int),vs=[.ref r,.ref p]/\Wb H r m ts/\m<=200/\H p=some (.tup (Z.map V.int))/\Z.length<=200/\∀(b:Bool) H',aK H H'->(b=true↔IsR (ts.map (·.2)) Z)->Q (.bl b) H'
@[irreducible] def kq:Sp:=rT
theorem dJ {vs:List V}{H:Hp}{Q:VK}{E:XK}:kq vs H Q E↔rT vs H Q E:=by
 delta kq
 exact yH
section
variable  {P:wL}{w:xg}{K:wc}{mg:Str->Option wm}{base:Heap}{f T:Addr}{fd:xB}
theorem qk:aO ["web", "ring"] ["web", "ring"] (aB jk):=⟨rfl,rfl,rfl,by decide +kernel,rfl,by decide +kernel,by decide +kernel⟩
theorem fi:(["k", "web", "ring"]:List Str).Nodup:=by decide +kernel
theorem ql (F:Fun K "_law_is_ring" "_law_is_ring" jk f fd)(B:Blt mg)(cLTimes:Cal P w K mg base 1 "_law_times" ["web", "one", "other"] d7):bF P w K mg base CX0 2 f fd ["web", "ring"] kq:=by
 refine F.ok qk (λvs H Q E h =>?_) (λcdv A outer s H vs Q E hr h =>?_)
 ·obtain ⟨_,_,_,_,_,rfl,_⟩:=dJ.mp h
  rfl
 obtain ⟨r,p,m,ts,Z,rfl,W,m2,ep,l5,q⟩:=dJ.mp h
 refine ⟨_,(@ah _ _ _ _ _ (@aN _ _ _ _ _ _ _ _ (PW.pt (cg (aj bo (ao aP rfl B.b_len bS (@aa _ _ _ _ _ (pv 1) af rfl)) ag (ax _)) (cg (aj qE (ao iq rfl B.b_len bS (@aa _ _ _ _ _ (bb (ja (w:=w) rfl hr.hd) rfl B.b_set rH (@aa _ _ _ _ _ (pv 1) af rfl)) af rfl)) (ao aP rfl B.b_len bS (@aa _ _ _ _ _ (pv 1) af rfl)) (ax _)) (cg (aj eF (ao (nz rfl) rfl B.b_min dZ (@aa _ _ _ _ _ (pv 1) af rfl)) ag (ax _)) (cu (aj oe (ao (nE rfl) rfl B.b_max js (@aa _ _ _ _ _ (pv 1) af rfl)) (@ay _ _ _ _ _ _ _ av (pv 0) ag (λ_ _=>rfl)) (ax _))))))) (@ai _ _ _ (@au _ _ _ _ jQ)) az)
  (@ah _ _ _ _ _ (@aN _ _ _ _ _ _ _ _ (aj eF (ao aP rfl B.b_len bS (@aa _ _ _ _ _ (pv 1) af rfl)) ag (ax _)) (@ai _ _ _ (@au _ _ _ _ (bT oe (aq cLTimes hr (by decide) rfl (@aa _ _ _ _ _ (pv 0) (@aa _ _ _ _ _ (@ay _ _ _ _ _ _ _ av (pv 1) ag (λ_ _=>rfl)) (@aa _ _ _ _ _ (@ay _ _ _ _ _ _ _ av (pv 1) (jT gN ag) (λ_ _=>rfl)) af rfl) rfl) rfl)) (ao aP rfl B.b_len bS (@aa _ _ _ _ _ (pv 1) af rfl)) (ax _)))) az)
  (@ai _ _ _ (@au _ _ _ _ (ao (eV rfl) rfl B.b_all jq (@aa _ _ _ _ _ (bD ["k", "web", "ring"] [none,some 0,some 1] rfl (bz rfl B.b_range (@aa _ _ _ _ _ (ao aP rfl B.b_len bS (@aa _ _ _ _ _ (pv 1) af rfl)) af rfl)) rfl (λ_ _ _ _ _=>(aD (i:=0) fi rfl (Or.inl rfl))) (λ_ _ _ _ _=>bQ) (λ_ _ _ _ _=>(bT iS (aq cLTimes hr (by decide) rfl (@aa _ _ _ _ _ (pv 1) (@aa _ _ _ _ _ (@ay _ _ _ _ _ _ _ (kF (K:=K)) (pv 2) (@aE _ _ _ _ _ _ _ _ cY (pv 0) ag) (λ_ _=>rfl)) (@aa _ _ _ _ _ (@ay _ _ _ _ _ _ _ (kF (K:=K)) (pv 2) (pv 0) (λ_ _=>rfl)) af rfl) rfl) rfl)) ag (ax _)))) af rfl)))))),?_⟩
 have iL:=oG W.ok Z
 obtain ⟨t,e1,e2⟩:=W.at'
 have lz:(Z.map V.int).length=Z.length:=wd _
 refine ⟨_,rfl,p,_,rfl,.inr (SqT.of ep),rfl,_,rfl,?_⟩
 rw[lz]
 by_cases z0:Z.length=0
 ·rw[decide_eq_true (by rw[z0];rfl)]
  exact aS (aS (q false H (aK.refl _) ⟨λz=>(by cases z),λz=>absurd (Ae.mp z0) z.1⟩))
 rw[decide_eq_false (by intro z;injection z with z;lia)]
 have zn:Z≠[]:=λz=>z0 (by rw[z];rfl)
 refine aT ⟨_,rfl,p,Z,rfl,.inr (SqT.of ep),by lia,λa us ha mu nu lu =>?_⟩
 have ga:=ab ha (jI w a (us.map V.int))
 have sl:=oH nu mu
 refine ⟨a,us.map V.int,rfl,ae,by rw[wd];lia,?_⟩
 generalize upd H a (jI w a (us.map V.int))=H1 at ga
 refine ⟨_,rfl,p,_,rfl,.inr (SqT.of (ga _ _ ep)),rfl,_,rfl,?_⟩
 rw[lz,wd]
 by_cases nd:Z.Nodup
 case neg =>
  rw[decide_eq_false (by rw[iF,sl];exact nd)]
  exact aS (aS (q false _ ga ⟨λz=>(by cases z),λz=>absurd z.2.1 nd⟩))
 refine ud (iF.mpr (sl.mpr nd)) ?_
 have ep1:=ga _ _ ep
 have W1:=W.same ga
 refine ⟨_,rfl,p,Z,rfl,SqT.of ep1,zn,λM hM mn=>⟨_,_,rfl,rfl,_,rfl,?_⟩⟩
 by_cases c1:M<0
 ·rw[decide_eq_true c1]
  refine aS (aS (q false _ ga ⟨λz=>(by cases z),λz =>?_⟩))
  have:=((iL.mpr z).2.2.1 M hM).1
  lia
 rw[decide_eq_false c1]
 refine aT ⟨_,rfl,p,Z,rfl,SqT.of ep1,zn,λN hN mx=>⟨_,rfl,r,_,0,_,rfl,rfl,SqT.of (ga _ _ e1),rfl,_,_,rfl,rfl,_,rfl,?_⟩⟩
 by_cases c2:(m:Int)<=N
 ·rw[decide_eq_true c2]
  refine aS (q false _ ga ⟨λz=>(by cases z),λz =>?_⟩)
  have:=((iL.mpr z).2.2.1 N hN).2
  lia
 rw[decide_eq_false c2]
 have rng:∀v∈Z,0<=v/\v<m:=λv hv=>⟨by have:=mn v hv;lia,by have:=mx v hv;lia⟩
 refine aT ⟨_,rfl,p,_,rfl,.inr (SqT.of ep1),_,_,rfl,rfl,_,rfl,?_⟩
 rw[lz]
 have pv0:=ju (Z:=Z) (k:=0) (by lia)
 have a0:atI (Z.map V.int) 0=some (.int (Z.getD 0 0)):=iz (n:=0) (by lia)
 by_cases c3:Z.length<3
 ·rw[decide_eq_true (by lia)]
  refine aS ⟨_,rfl,_,rfl,p,_,0,_,rfl,rfl,SqT.of ep1,a0,_,rfl,1,rfl,p,_,_,_,rfl,rfl,SqT.of ep1,pv0,bE.mpr ⟨r,m,_,_,ts,rfl,W1,λH2 s2=>⟨_,rfl,p,_,rfl,.inr (SqT.of (s2 _ _ ep1)),_,_,rfl,rfl,q _ _ (ga.trans s2) ?_⟩⟩⟩
  rw[lz, <- iL,decide_eq_true_iff]
  constructor
  ·intro h
   exact ⟨zn,nd,rng,λ_=>by lia,λh=>absurd c3 h⟩
  ·intro h
   have:=h.2.2.2.1 c3
   show ((Z.length:Nat):Int)<=_
   lia
 ·rw[decide_eq_false (by lia)]
  have li:((Z.length:Nat):Int).toNat=Z.length:=by lia
  let W0:Nat->List V->Hp->Prop:=λi ys H'=>aK H1 H'/\ys=((xE i).map λk=>decide (0<(ts.map (·.2)).count (nrm (prv Z k) (Z.getD k 0)))).map V.bl
  refine aT ⟨_,rfl,p,_,rfl,.inr (SqT.of ep1),((Z.length:Nat):Int),by rw[lz],by lia,by lia,bI W0 ⟨aK.refl _,rfl⟩ (aU (by lia)) ?_ ?_⟩
  ·rintro i ys H2 hi _ ⟨s2,rfl⟩ R1 R0 r1 r0
   rw[li] at hi
   rw[B2]
   refine aS ⟨_,rfl,_,rfl,_,rfl,_,_,rfl,rfl,p,_,_,_,rfl,rfl,SqT.of (s2 _ _ ep1),ju hi,_,rfl,_,rfl,p,_,_,_,rfl,rfl,SqT.of (s2 _ _ ep1),iz hi,(bE (E:=E0)).mpr ⟨r,m,_,_,ts,rfl,W1.same s2,λH3 s3=>⟨_,_,rfl,rfl,r1 _ _ ⟨s2.trans s3,?_⟩⟩⟩⟩
   rw[List.range_succ,wB,wB]
   congr 2
   show V.bl _=V.bl _
   congr 1
   exact decide_eq_decide.mpr ⟨λh=>by have h:(0:Int)<_:=h;lia,λh=>by show (0:Int)<_;lia⟩
  ·rintro ys H2 _ ⟨s2,rfl⟩ l hl
   rw[li]
   refine ⟨l,_,rfl,SqL.of ae,q _ _ (ga.trans (s2.trans (ab hl _))) ?_⟩
   rw[A0,yq, <- iL]
   constructor
   ·intro h
    exact ⟨zn,nd,rng,λh=>absurd h c3,λ_ k hk=>of_decide_eq_true (h k (xD.mpr hk))⟩
   ·intro h k hk
    exact decide_eq_true (h.2.2.2.2 c3 k (xD.mp hk))
end
theorem rV {b1:Bool}{U:Hp->(Bool->Hp->Prop)->Prop}{A P:Hp->Prop}{H5:Hp}(G:Hp->Prop)(hP:∀H',G H'->P H')(h:(∀H',G H'->P H')->b1=true->U H5 λb H1=>if b=true then A H1 else P H1)(h2:G H5):if b1=true then U H5 (λb H1=>if b=true then A H1 else P H1) else (λb H1=>if b=true then A H1 else P H1) false H5:=by
 cases b1 with
 | true=>rw[if_pos rfl];exact h hP rfl
 | false=>rw[if_neg wG];exact aT (hP _ h2)
def Tn (m:Nat):Nat->Nat
 | 0=>1
 | k+1=>1+m*Tn m k
theorem rW (m:Nat):∀k,1<=Tn m k
 | 0=>wq _
 | k+1=>y6 _ _
def Wt (m:Nat)(us:List (Addr×List Int)):Nat:=(us.map λu=>Tn m (m-u.2.length)).sum
theorem rX (m:Nat):∀us:List (Addr×List Int),us.length<=Wt m us
 | []=>wq _
 | u :: us=>by
  have:=rX m us
  have h:=rW m (m-u.2.length)
  unfold Wt at this ⊢
  rw[xv,DI,xn]
  lia
theorem vi (m:Nat)(us vs:List (Addr×List Int)):Wt m (us++vs)=Wt m us+Wt m vs:=by
 unfold Wt
 rw[wB,B0]
theorem nP {m L:Nat}:∀{vs:List (Addr×List Int)},(∀v∈vs,v.2.length=L)->Wt m vs=vs.length*Tn m (m-L)
 | [],_=>by simp[Wt]
 | v :: vs,h=>by
  have h1:=nP (m:=m) (vs:=vs) λu hu=>h u (xf _ hu)
  unfold Wt at h1 ⊢
  rw[xv,DI,h1,h v wY,xn,Nat.succ_mul]
  lia
theorem vj {m:Nat}(h:m<=5):m*Tn m (m-1)<=4000:=by
 obtain rfl | rfl | rfl | rfl | rfl | rfl:m=0\/m=1\/m=2\/m=3\/m=4\/m=5:=by lia
 all_goals decide
def Pth (m:Nat)(Z:List Int):Prop:=Z≠[]/\Z.Nodup/\∀v∈Z,0<=v/\v<m
theorem Pth.len {m:Nat}{Z:List Int}(h:Pth m Z):Z.length<=m:=rK h.2.1 h.2.2
theorem nQ {Z:List Int}{y:Int}(h:Z.Nodup)(n:y∉Z):(Z++[y]).Nodup:=C0.mpr ⟨h,by simp,λa ha b hb e=>by
 rw[wx.mp hb] at e
 exact n (e ▸ ha)⟩
theorem qm {H:Hp}{us:List (Addr×List Int)}{p:Addr}{xs ys:List V}(h:Tus H us)(e:H p=some (.lst xs)):Tus (upd H p (.lst ys)) us:=λu hu=>by
 rw[aF (jP (h u hu) e nofun)];exact h u hu
abbrev mE:Sp:=λvs H Q _=>∃(r:Addr) (m:Nat) (ts:List (Addr×List Int)),vs=[.ref r]/\Wb H r m ts/\m<=5/\∀(l:Addr) (us:List (Addr×List Int)) (H':Hp),aK H H'->H l=none->H' l=some (.lst (us.map λu =>.ref u.1))->Tus H' us->(∀u∈us,Pth m u.2)->us.length<=4000->Q (.ref l) H'
@[irreducible] def iJ:Sp:=mE
theorem fj {vs:List V}{H:Hp}{Q:VK}{E:XK}:iJ vs H Q E↔mE vs H Q E:=by
 delta iJ
 exact yH
section
variable  {P:wL}{w:xg}{K:wc}{mg:Str->Option wm}{base:Heap}{f T:Addr}{fd:xB}
theorem dh:aO ["web", "found", "paths", "at", "path", "place"] ["web"] (aB kW):=⟨rfl,rfl,rfl,by decide +kernel,rfl,by decide +kernel,by decide +kernel⟩
theorem jy:(["place"]:List Str).Nodup:=by decide +kernel
theorem rY (F:Fun K "_law_rings" "_law_rings" kW f fd)(B:Blt mg)(cLIsRing:Cal P w K mg base 2 "_law_is_ring" ["web", "ring"] kq)(cLTimes:Cal P w K mg base 1 "_law_times" ["web", "one", "other"] d7):bF P w K mg base CX0 3 f fd ["web"] iJ:=by
 refine F.ok dh (λvs H Q E h =>?_) (λcdv A outer s H vs Q E hr h =>?_)
 ·obtain ⟨_,_,_,rfl,_⟩:=fj.mp h
  rfl
 obtain ⟨r,m,ts,rfl,W,m5,q⟩:=fj.mp h
 refine ⟨_,(@ah _ _ _ _ _ (@aH _ _ 1 _ _ _ _ dh.nd rfl (Or.inl rfl) (@aI _ _ _ _ af) rfl (by first | exact .inl rfl | exact .inr rfl | assumption))
  (@ah _ _ _ _ _ (cA (i:=2) ["place"] [none] rfl dh.nd rfl rfl (bz rfl B.b_range (@aa _ _ _ _ _ (@ay _ _ _ _ _ _ _ av (pv 0) ag (λ_ _=>rfl)) af rfl)) rfl (λ_ _ _ _ _=>(aD (i:=0) jy rfl (Or.inl rfl))) (λ_ _ _ _ _=>bQ) (λ_ _ _ _ _=>(@aQ _ _ _ _ _ (@aa _ _ _ _ _ (pv 0) af rfl))))
  (@ah _ _ _ _ _ (@aH _ _ 3 _ _ _ _ dh.nd rfl (Or.inl rfl) ag rfl (by first | exact .inl rfl | exact .inr rfl | assumption))
  (@ah _ _ _ _ _ (qB xN (aj eF (pv 3) (ao aP rfl B.b_len bS (@aa _ _ _ _ _ (pv 2) af rfl)) (ax _))
   (@ah _ _ _ _ _ (@aH _ _ 4 _ _ _ _ dh.nd rfl (Or.inl rfl) (@ay _ _ _ _ _ _ _ bC (pv 2) (pv 3) (λ_ _=>rfl)) rfl (by first | exact .inl rfl | exact .inr rfl | assumption))
   (@ah _ _ _ _ _ (@aN _ _ _ _ _ _ _ _ (PW.pt (cz (cf (aq cLIsRing hr (by decide) rfl (@aa _ _ _ _ _ (pv 0) (@aa _ _ _ _ _ (pv 4) af rfl) rfl))) (bW (PW.pt (cg (aj eF (ao aP rfl B.b_len bS (@aa _ _ _ _ _ (pv 4) af rfl)) ag (ax _)) (cu (aj eF (@ay _ _ _ _ _ _ _ av (pv 4) ag (λ_ _=>rfl)) (@ay _ _ _ _ _ _ _ av (pv 4) (jT gN ag) (λ_ _=>rfl)) (ax _)))))))) (@ai _ _ _ (iA (oj zw zg zh fz (pv 1) (@aa _ _ _ _ _ (pv 4) af rfl)))) az)
   (@ah _ _ _ _ _ (@cv _ _ _ _ _ _ _ _ xN rfl (pk rfl B.b_range (@aa _ _ _ _ _ (@aE _ _ _ _ _ _ _ _ bh (@ay _ _ _ _ _ _ _ av (pv 4) ag (λ_ _=>rfl)) ag) (@aa _ _ _ _ _ (@ay _ _ _ _ _ _ _ av (pv 0) ag (λ_ _=>rfl)) af rfl) rfl)) (aD (i:=5) dh.nd rfl (Or.inl rfl))
    (@ai _ _ _ (@aN _ _ _ _ _ _ _ _ (PW.pt (cz (aj bX (pv 5) (pv 4) rfl) (bW (aj iS (aq cLTimes hr (by decide) rfl (@aa _ _ _ _ _ (pv 0) (@aa _ _ _ _ _ (@ay _ _ _ _ _ _ _ av (pv 4) (jT gN ag) (λ_ _=>rfl)) (@aa _ _ _ _ _ (pv 5) af rfl) rfl) rfl)) ag (ax _))))) (@ai _ _ _ (iA (oj zw zg zh fz (pv 2) (@aa _ _ _ _ _ (@aE _ _ _ _ _ _ _ _ cZ (pv 4) (@aQ _ _ _ _ _ (@aa _ _ _ _ _ (pv 5) af rfl))) af rfl)))) az)) (λ_=>rfl))
   (@ai _ _ _ (@aH _ _ 3 _ _ _ _ dh.nd rfl (Or.inl rfl) (@aE _ _ _ _ _ _ _ _ bh (pv 3) ag) rfl (by first | exact .inl rfl | exact .inr rfl | assumption)))))))
  (@ai _ _ _ (@au _ _ _ _ (pv 1))))))),?_⟩
 obtain ⟨t,e1,e2⟩:=W.at'
 refine ⟨(by show 0<=wo;decide),λfl hfl =>?_⟩
 have s1:=ab hfl (.lst [])
 have efl:upd H fl (.lst []) fl=some (.lst (([]:List (Addr×List Int)).map λu =>.ref u.1)):=ae
 generalize upd H fl (.lst [])=H1 at s1 efl
 let W1:Nat->List V->Hp->Prop:=λi ys H'=>aK H1 H'/\∃us:List (Addr×List Int),ys=us.map (λu =>.ref u.1)/\Tus H' us/\(∀u∈us,Pth m u.2/\u.2.length=1)/\us.length=i
 refine ⟨_,rfl,r,_,0,_,rfl,rfl,SqT.of (s1 _ _ e1),rfl,(m:Int),rfl,by lia,by lia,bI W1 ⟨aK.refl _,[],rfl,(λu h=>nomatch h),(λu h=>nomatch h),rfl⟩ (aU (by lia)) ?_ ?_⟩
 ·rintro i ys H2 hi _ ⟨s2,us,rfl,tu,pu,lu⟩ R1 R0 r1 r0
  refine aS ⟨_,rfl,(by show 1<=wo;decide),λo ho=>r1 _ _ ⟨s2.trans (ab ho _),us++[(o,[0+(i:Int)])],by rw[wB];rfl,(tu.same (ab ho _)).snoc ae,λu hu =>?_,by rw[wj,lu];rfl⟩⟩
  rcases wC.mp hu with z | z
  ·exact pu u z
  ·rw[wx.mp z]
   exact ⟨⟨by simp,by simp,λv hv=>by rw[wx.mp hv];lia⟩,rfl⟩
 rintro ys H2 _ ⟨s2,us0,rfl,tu0,pu0,lu0⟩ p hp
 have s3:=s1.trans (s2.trans (ab hp (.lst (us0.map λu=>V.ref u.1))))
 have hp0:H p=none:=(s1.trans s2).free hp
 have efl3:=(ab hp (.lst (us0.map λu=>V.ref u.1))) _ _ (s2 _ _ efl)
 have ep3:upd H2 p (.lst (us0.map λu=>V.ref u.1)) p=some (.lst (us0.map λu=>V.ref u.1)):=ae
 have tu3:=tu0.same (ab hp (.lst (us0.map λu=>V.ref u.1)))
 have npf:p≠fl:=λz=>by rw[z,s2 _ _ efl] at hp;cases hp
 generalize upd H2 p (.lst (us0.map λu=>V.ref u.1))=H3 at s3 efl3 ep3 tu3
 have w0:Wt m us0<=4000:=by
  rw[nP (L:=1) λv hv=>(pu0 v hv).2,lu0,show (m:Int).toNat=m by lia]
  exact vj m5
 refine qC (λσ H'=>∃(at':Nat) (us fs:List (Addr×List Int)),(∃c4 c5,σ=[some (.ref r),some (.ref fl),some (.ref p),some (.int (at':Nat)),c4,c5])/\aK H H'/\H' p=some (.lst (us.map λu =>.ref u.1))/\Tus H' us/\(∀u∈us,Pth m u.2)/\H' fl=some (.lst (fs.map λu =>.ref u.1))/\Tus H' fs/\(∀u∈fs,Pth m u.2)/\fs.length<=at'/\at'<=us.length/\at'+Wt m (us.drop at')<=4000)
  (λ(σ:St) (_:Hp)=>match σ[3]? with | some (some (V.int a))=>(5000-a).toNat | _=>0) ⟨0,us0,[],⟨_,_,rfl⟩,s3,ep3,tu3,λu hu=>(pu0 u hu).1,efl3,(λu h=>nomatch h),(λu h=>nomatch h),wq _,xH _,by rw[Ba];lia⟩ ?_ ?_
 ·rintro σ H4 ⟨at',us,fs,⟨c4,c5,rfl⟩,s4,ep4,tu4,pu4,ef4,tf4,pf4,lf4,la,wt⟩
  have lum:(us.map λu=>V.ref u.1).length=us.length:=wd _
  have lul:us.length<=4000:=by
   have:=rX m (us.drop at')
   rw[yp] at this
   lia
  refine ⟨_,rfl,_,rfl,p,_,rfl,.inl (SqL.of ep4),_,_,rfl,rfl,_,rfl,?_⟩
  rw[lum]
  by_cases ha:at'<us.length
  case neg =>
   rw[decide_eq_false (by lia)]
   exact aT ⟨_,rfl,q fl fs _ s4 hfl ef4 tf4 pf4 (by lia)⟩
  rw[decide_eq_true (by lia)]
  obtain ⟨u,eu⟩:∃u,us[at']? = some u:=⟨us[at'],wz ha⟩
  have um:=wR eu
  obtain ⟨zn,nd,rng⟩:=pu4 u um
  have lu:=(pu4 u um).len
  have zl:0<u.2.length:=xW.mpr zn
  have drp:us.drop at'=u :: us.drop (at'+1):=by
   rw[A8 ha]
   congr 1
   exact (wF.mp eu).2
  have wt':at'+(Tn m (m-u.2.length)+Wt m (us.drop (at'+1)))<=4000:=by
   rw[drp] at wt
   exact wt
  have a0:atI (u.2.map V.int) 0=some (.int (u.2.getD 0 0)):=iz (n:=0) zl
  have al:=ju (Z:=u.2) (k:=0) zl
  have g0:0<=u.2.getD 0 0/\u.2.getD 0 0<m:=rng _ (by rw[wD,wz zl];exact yD _)
  refine aS ⟨_,rfl,_,rfl,p,_,_,_,rfl,rfl,SqL.of ep4,fw (by rw[xh,eu];rfl),?_⟩
  have eu4:=tu4 u um
  have lzm:(u.2.map V.int).length=u.2.length:=wd _
  refine ⟨_,rfl,_,rfl,dJ.mpr ⟨r,u.1,m,ts,u.2,rfl,W.same s4,by lia,eu4,by lia,λb1 H5 s5 _=>⟨_,rfl,?_⟩⟩⟩
  have s45:=s4.trans s5
  refine rV (λH6=>∃fs':List (Addr×List Int),aK H H6/\H6 p=some (.lst (us.map λu =>.ref u.1))/\Tus H6 us/\H6 fl=some (.lst (fs'.map λu =>.ref u.1))/\Tus H6 fs'/\(∀u∈fs',Pth m u.2)/\fs'.length<=at'+1) ?_ (λhP hb =>?_) ⟨fs,s45,s5 _ _ ep4,tu4.same s5,s5 _ _ ef4,tf4.same s5,pf4,by lia⟩
  ·rintro H6 ⟨fs',s6,ep6,tu6,ef6,tf6,pf6,lf6⟩
   let W2:Nat->St->Hp->Prop:=λi σ H'=>(∃c5,σ=[some (.ref r),some (.ref fl),some (.ref p),some (.int (at':Nat)),some (.ref u.1),c5])/\aK H H'/\H' fl=some (.lst (fs'.map λu =>.ref u.1))/\Tus H' fs'/\∃vs:List (Addr×List Int),H' p=some (.lst ((us++vs).map λu =>.ref u.1))/\Tus H' (us++vs)/\(∀v∈vs,Pth m v.2/\v.2.length=u.2.length+1)/\vs.length<=i
   refine ⟨_,rfl,u.1,_,0,_,rfl,rfl,SqT.of (tu6 u um),a0,_,_,rfl,rfl,_,rfl,r,_,0,_,rfl,rfl,SqT.of (s6 _ _ e1),rfl,u.2.getD 0 0+1,(m:Int),rfl,⟨by lia,by lia,by lia,by lia⟩,dF W2 ⟨⟨_,rfl⟩,s6,ef6,tf6,[],by rw[xM];exact ep6,by rw[xM];exact tu6,(λv h=>nomatch h),wq _⟩ ?_ ?_⟩
   ·rintro i σ H7 hi ⟨⟨c5,rfl⟩,s7,ef7,tf7,vs,ep7,tu7,pv7,lv7⟩
    have hi5:i<5:=by lia
    refine ⟨_,rfl,_,rfl,u.1,_,rfl,.inr (SqT.of (tu7 u (yb _ um))),rfl,aW u.2,_,rfl,?_⟩
    show if (if true=true then !inV (.int (u.2.getD 0 0+1+i)) (u.2.map V.int) else _)=true then _ else _
    rw[if_pos rfl,eJ]
    by_cases hin:u.2.getD 0 0+1+i∈u.2
    ·rw[decide_eq_true hin]
     exact aT (aT ⟨⟨_,rfl⟩,s7,ef7,tf7,vs,ep7,tu7,pv7,by lia⟩)
    rw[decide_eq_false hin]
    refine aS ⟨_,rfl,_,rfl,1,rfl,u.1,_,_,_,rfl,rfl,SqT.of (tu7 u (yb _ um)),al,_,rfl,bE.mpr ⟨r,m,_,_,ts,rfl,W.same s7,λH8 s8=>⟨_,_,rfl,rfl,_,rfl,bN (λz =>?_) λz=>⟨⟨_,rfl⟩,s7.trans s8,s8 _ _ ef7,tf7.same s8,vs,s8 _ _ ep7,tu7.same s8,pv7,by lia⟩⟩⟩⟩
    have s78:=s7.trans s8
    have tu8:=tu7.same s8
    refine ⟨_,rfl,.inl ⟨rfl,_,SqL.of (s8 _ _ ep7)⟩,_,rfl,_,rfl,(by show 1<=wo;decide),λo ho =>?_⟩
    have g9:=ab ho (.tup [.int (u.2.getD 0 0+1+i)])
    refine ⟨u.1,o,_,_,rfl,rfl,g9 _ _ (tu8 u (yb _ um)),ae,aU (by rw[lzm];show _+1<=_;lia),λo2 H10 s10 e10 =>?_⟩
    have g10:=g9.trans s10
    have ep10:=g10 _ _ (s8 _ _ ep7)
    have e10':H10 o2=some (.tup ((u.2++[u.2.getD 0 0+1+(i:Int)]).map V.int)):=by rw[e10,wB];rfl
    have lvu:((us++vs).map λu=>V.ref u.1).length<5000:=by rw[wd,wj];lia
    refine ⟨p,_,_,rfl,rfl,ep10,gZ (by lia),⟨_,rfl⟩,aK.dW (s78.trans g10) hp0 _,by rw[aF npf.symm];exact g10 _ _ (s8 _ _ ef7),qm ((tf7.same s8).same g10) ep10,vs++[(o2,u.2++[u.2.getD 0 0+1+(i:Int)])],by rw[ae, <- xc,wB (l₁:=us++vs)];rfl,by rw[<- xc];exact qm ((tu8.same g10).snoc e10') ep10,λv hv =>?_,by rw[wj];show _+1<=_;lia⟩
    rcases wC.mp hv with z | z
    ·exact pv7 v z
    ·rw[wx.mp z]
     refine ⟨⟨by simp,nQ nd hin,λv hv =>?_⟩,by rw[wj];rfl⟩
     rcases wC.mp hv with z | z
     ·exact rng v z
     ·rw[wx.mp z];lia
   ·rintro σ H7 ⟨⟨c5,rfl⟩,s7,ef7,tf7,vs,ep7,tu7,pv7,lv7⟩
    refine ⟨_,rfl,_,_,rfl,rfl,⟨at'+1,us++vs,fs',⟨_,_,rfl⟩,s7,ep7,tu7,λv hv =>?_,ef7,tf7,pf6,lf6,by rw[wj];lia,?_⟩,?_⟩
    ·rcases wC.mp hv with z | z
     ·exact pu4 v z
     ·exact (pv7 v z).1
    ·rw[zy (by lia),vi]
     rw[nP (L:=u.2.length+1) λv hv=>(pv7 v hv).2]
     rcases vs with _ | ⟨v,vs⟩
     ·have:=rW m (m-u.2.length)
      simp only[zH,Nat.zero_mul]
      lia
     ·have l1:=(pv7 v wY)
      have l2:=l1.1.len
      rw[show m-u.2.length=(m-(u.2.length+1))+1 by lia] at wt'
      have:Tn m (m-(u.2.length+1)+1)=1+m*Tn m (m-(u.2.length+1)):=rfl
      rw[this] at wt'
      have h3:(v :: vs).length*Tn m (m-(u.2.length+1))<=m*Tn m (m-(u.2.length+1)):=Nat.mul_le_mul_right _ (by lia)
      lia
    ·show (5000-((at':Int)+1)).toNat<(5000-(at':Int)).toNat
     lia
  ·refine ⟨_,rfl,u.1,_,rfl,.inr (SqT.of (s5 _ _ eu4)),_,_,rfl,rfl,_,rfl,?_⟩
   rw[lzm]
   by_cases c3:u.2.length<3
   ·rw[decide_eq_true (by lia)]
    refine aS (aS ?_)
    have s6:=s45
    have ef6:=s5 _ _ ef4
    refine ⟨_,rfl,.inl ⟨rfl,_,SqL.of ef6⟩,_,rfl,fl,_,_,rfl,rfl,ef6,gZ (by rw[wd];lia),hP _ ⟨fs++[u],aK.dW s6 hfl _,(by rw[aF npf];exact s5 _ _ ep4),(qm (tu4.same s5) ef6),(by rw[ae,wB];rfl),(qm ((tf4.same s5).snoc (s5 _ _ eu4)) ef6),(λv hv =>?_),(by rw[wj];show _+1<=_;lia)⟩⟩
    rcases wC.mp hv with z' | z'
    ·exact pf4 v z'
    ·rw[wx.mp z'];exact pu4 u um
   ·rw[decide_eq_false (by lia)]
    have a1:atI (u.2.map V.int) 1=some (.int (u.2.getD 1 0)):=iz (n:=1) (by lia)
    refine aT ⟨_,rfl,u.1,_,1,_,rfl,rfl,SqT.of (s5 _ _ eu4),a1,_,rfl,1,rfl,u.1,_,_,_,rfl,rfl,SqT.of (s5 _ _ eu4),al,_,_,rfl,rfl,_,rfl,bN (λz =>?_) λz=>hP _ ⟨fs,s45,s5 _ _ ep4,tu4.same s5,s5 _ _ ef4,tf4.same s5,pf4,by lia⟩⟩
    have s6:=s45
    have ef6:=s5 _ _ ef4
    refine ⟨_,rfl,.inl ⟨rfl,_,SqL.of ef6⟩,_,rfl,fl,_,_,rfl,rfl,ef6,gZ (by rw[wd];lia),hP _ ⟨fs++[u],aK.dW s6 hfl _,(by rw[aF npf];exact s5 _ _ ep4),(qm (tu4.same s5) ef6),(by rw[ae,wB];rfl),(qm ((tf4.same s5).snoc (s5 _ _ eu4)) ef6),(λv hv =>?_),(by rw[wj];show _+1<=_;lia)⟩⟩
    rcases wC.mp hv with z' | z'
    ·exact pf4 v z'
    ·rw[wx.mp z'];exact pu4 u um
 ·rintro σ H Q Q' h ⟨v,e,w,e',p,xs,h1,h2,i,j,h3,h4,b,h5,y⟩
  exact ⟨v,e,w,e',p,xs,h1,h2,i,j,h3,h4,b,h5,h _ _ y⟩
end
open PySem L2
def itL:Option MnR.Rs->List V
 | none=>[]
 | some x=>MnR.its x
def ShL (H:Hp)(v:V)(x:Option MnR.Rs):Prop:=∃a,v = .ref a/\H a=some (.lst (itL x))
theorem ShL.same {H H':Hp}{v:V}{x:Option MnR.Rs}(h:ShL H v x)(s:aK H H'):ShL H' v x:=by
 obtain ⟨a,e,h⟩:=h
 exact ⟨a,e,s _ _ h⟩
theorem oU {l:List Int}{p:Int->Prop}[DecidablePred p]:(l.map λx=>decide (p x)).any id=true↔∃x∈l,p x:=by
 rw[B1,zz]
 exact ⟨λ⟨x,h,z⟩=>⟨x,h,of_decide_eq_true z⟩,λ⟨x,h,z⟩=>⟨x,h,decide_eq_true z⟩⟩
theorem iK {l:List Int}{p:Int->Prop}[DecidablePred p]:(l.map λx=>decide (p x)).all id=true↔∀x∈l,p x:=by
 rw[A0,yq]
 exact ⟨λz x h=>of_decide_eq_true (z x h),λz x h=>decide_eq_true (z x h)⟩
abbrev oV:Sp:=λvs H Q _=>∃(r wa t k p:Addr) (m:Nat) (ts:List (Addr×List Int)) (ws T Kp:List Int) (rs:List (List Int×Int)),vs=[.ref r,.ref wa,.ref t,.ref k,.ref p]/\Wb H r m ts/\m<=200/\H wa=some (.lst (ws.map V.int))/\ws.length=m/\H t=some (.lst (T.map V.int))/\(∀v∈T,0<=v/\v<m)/\T.length<=1000/\H k=some (.lst (Kp.map V.int))/\Rows true H p rs/\∀(v:V) (H':Hp) (b:Option MnR.Rs),aK H H'->ShL H' v b->(cB m (ts.map (·.2)) ws T Kp rs->b=some (some (wsum ws T+(rs.map (·.2)).sum)))->(¬ cB m (ts.map (·.2)) ws T Kp rs->b=none)->Q v H'
@[irreducible] def lp:Sp:=oV
theorem f6 {vs:List V}{H:Hp}{Q:VK}{E:XK}:lp vs H Q E↔oV vs H Q E:=by
 delta lp
 exact yH
section
variable  {P:wL}{w:xg}{K:wc}{mg:Str->Option wm}{base:Heap}{f T:Addr}{fd:xB}
theorem eD:aO ["web", "weights", "taken", "kept", "rows", "total", "ring", "share", "place", "laid"] ["web", "weights", "taken", "kept", "rows"] (aB nI):=⟨rfl,rfl,rfl,by decide +kernel,rfl,by decide +kernel,by decide +kernel⟩
theorem eO:(["place", "weights"]:List Str).Nodup:=by decide +kernel
theorem fJ:(["place", "taken"]:List Str).Nodup:=by decide +kernel
theorem f7:(["place", "kept"]:List Str).Nodup:=by decide +kernel
theorem dA:(["ring", "share", "place"]:List Str).Nodup:=by decide +kernel
theorem tU (F:Fun K "_law_leaf" "_law_leaf" nI f fd)(B:Blt mg)(cLIsRing:Cal P w K mg base 2 "_law_is_ring" ["web", "ring"] kq):bF P w K mg base CX0 3 f fd ["web", "weights", "taken", "kept", "rows"] lp:=by
 refine F.ok eD (λvs H Q E h =>?_) (λcdv A outer s H vs Q E hr h =>?_)
 ·obtain ⟨_,_,_,_,_,_,_,_,_,_,_,rfl,_⟩:=f6.mp h
  rfl
 obtain ⟨r,wa,t,k,p,m,ts,ws,T,Kp,rs,rfl,W,m2,hw,lw,et,tm,lt,ek,R,q⟩:=f6.mp h
 refine ⟨_,(@ah _ _ _ _ _ (@aH _ _ 5 _ _ _ _ eD.nd rfl (Or.inl rfl) (ao (gw hr.hd) rfl B.b_sum jt (@aa _ _ _ _ _ (bD ["place", "weights"] [none,some 1] rfl (@cI _ _ _ _ (pv 2)) rfl (λ_ _ _ _ _=>(aD (i:=0) eO rfl (Or.inl rfl))) (λ_ _ _ _ _=>bQ) (λ_ _ _ _ _=>(@ay _ _ _ _ _ _ _ (lK (K:=K)) (pv 1) (pv 0) (λ_ _=>rfl)))) af rfl)) rfl (by first | exact .inl rfl | exact .inr rfl | assumption))
  (@ah _ _ _ _ _ (@cv _ _ _ _ _ _ _ _ xN rfl (@cI _ _ _ _ (pv 4)) (gL rfl (bH (aD (i:=6) eD.nd rfl (Or.inl rfl)) (bH (aD (i:=7) eD.nd rfl (Or.inl rfl)) fu)))
   (@ah _ _ _ _ _ (@aN _ _ _ _ _ _ _ _ (PW.pt (cg (aj eF (pv 7) ag (ax _)) (cg (fP (cf (aq cLIsRing hr (by decide) rfl (@aa _ _ _ _ _ (pv 0) (@aa _ _ _ _ _ (pv 6) af rfl) rfl)))) (cu (cf (ao (gz rfl) rfl B.b_any kZ (@aa _ _ _ _ _ (bD ["place", "taken"] [none,some 2] rfl (@cW _ _ _ _ (pv 6)) rfl (λ_ _ _ _ _=>(aD (i:=0) fJ rfl (Or.inl rfl))) (λ_ _ _ _ _=>bQ) (λ_ _ _ _ _=>(bT (eZ (K:=K)) (pv 0) (pv 1) rfl))) af rfl))))))) (@ai _ _ _ (@au _ _ _ _ (@aI _ _ _ _ af))) az)
   (@ah _ _ _ _ _ (@aN _ _ _ _ _ _ _ _ (cf (ao (eV rfl) rfl B.b_all jq (@aa _ _ _ _ _ (bD ["place", "kept"] [none,some 3] rfl (@cW _ _ _ _ (pv 6)) rfl (λ_ _ _ _ _=>(aD (i:=0) f7 rfl (Or.inl rfl))) (λ_ _ _ _ _=>bQ) (λ_ _ _ _ _=>(bT (eZ (K:=K)) (pv 0) (pv 1) rfl))) af rfl))) (@ai _ _ _ (@au _ _ _ _ (@aI _ _ _ _ af))) az)
   (@ai _ _ _ (@aH _ _ 5 _ _ _ _ eD.nd rfl (Or.inl rfl) (@aE _ _ _ _ _ _ _ _ bh (pv 5) (pv 7)) rfl (by first | exact .inl rfl | exact .inr rfl | assumption))))) (λ_=>rfl))
  (@ah _ _ _ _ _ (@cv _ _ _ _ _ _ _ _ xN rfl (bz rfl B.b_range (@aa _ _ _ _ _ (@ay _ _ _ _ _ _ _ av (pv 0) ag (λ_ _=>rfl)) af rfl)) (aD (i:=8) eD.nd rfl (Or.inr rfl))
   (@ah _ _ _ _ _ (@aH _ _ 9 _ _ _ _ eD.nd rfl (Or.inl rfl) (ao (gw hr.hd) rfl B.b_sum jt (@aa _ _ _ _ _ (bD ["ring", "share", "place"] [none,none,some 8] rfl (@cI _ _ _ _ (pv 4)) rfl (λ_ _ _ _ _=>(rd (K:=K) (i:=0) (j:=1) dA rfl rfl (Or.inl rfl) (Or.inl rfl))) (λ_ _ _ _ _=>(iX (aj (eZ (K:=K)) (pv 2) (pv 0) rfl))) (λ_ _ _ _ _=>(pv 1))) af rfl)) rfl (by first | exact .inl rfl | exact .inr rfl | assumption))
   (@ai _ _ _ (@aN _ _ _ _ _ _ _ _ (PW.pt (cz (aj bX (pv 8) (pv 3) rfl) (bW (aj iS (pv 9) (@ay _ _ _ _ _ _ _ bC (pv 1) (pv 8) (λ_ _=>rfl)) (ax _))))) (@ai _ _ _ (@au _ _ _ _ (@aI _ _ _ _ af))) az))) (λ_=>rfl))
  (@ai _ _ _ (@au _ _ _ _ (@aI _ _ _ _ (@aa _ _ _ _ _ aV (@aa _ _ _ _ _ (pv 5) af rfl) rfl))))))),?_⟩
 obtain ⟨tt,e1,e2⟩:=W.at'
 obtain ⟨us,hp,hu,eus,lus⟩:=R
 have hp:H p=some (.lst (us.map λu =>.ref u.1)):=hp
 have lum:(us.map λu=>V.ref u.1).length=us.length:=wd _
 have cut:∀{i:Nat} {u:Addr×Addr×List Int×Int},us[i]? = some u->rs.take (i+1)=rs.take i++[(u.2.2.1,u.2.2.2)]:=λ{i u} e=>by
  rw[<- eus, <- zP, <- zP,take_snoc e]
 refine ⟨_,rfl,t,rfl,⟨_,SqL.of et⟩,ui (λv=>ws.getD v.toNat 0) V.int et (by lia) (λv hv R hR =>?_) λl hl =>?_⟩
 ·obtain ⟨v0,v1⟩:=tm v hv
  have ha:=iz (ws:=ws) (n:=v.toNat) (by lia)
  rw[show ((v.toNat:Nat):Int)=v by lia] at ha
  exact ⟨_,rfl,_,rfl,wa,_,v,_,rfl,rfl,SqL.of hw,ha,hR⟩
 have s1:=ab hl (.lst ((T.map λv=>ws.getD v.toNat 0).map V.int))
 refine ⟨l,_,rfl,ae,?_⟩
 generalize upd H l (.lst ((T.map λv=>ws.getD v.toNat 0).map V.int))=H1 at s1
 let W0:Nat->St->Hp->Prop:=λi σ H'=>(∃c6 c7,σ=[some (.ref r),some (.ref wa),some (.ref t),some (.ref k),some (.ref p),some (.int (wsum ws T+((rs.take i).map (·.2)).sum)),c6,c7,none,none])/\aK H H'/\∀r∈rs.take i,mj (ts.map (·.2)) T Kp r
 refine ⟨_,rfl,p,rfl,⟨_,SqL.of (s1 _ _ hp)⟩,dE (xs:=us.map λu =>.ref u.1) W0 ⟨⟨_,_,by show _=[_,_,_,_,_,some (V.int (wsum ws T+0)),_,_,_,_];rw[C5];rfl⟩,s1,(λr h=>nomatch h)⟩ (λi σ H' _ h=>SqL.of (h.2.1 _ _ hp)) ?_ ?_⟩
 ·rintro i x σ H2 hx ⟨⟨c6,c7,rfl⟩,s2,al⟩
  obtain ⟨u,eu,rfl⟩:=mw hx
  have um:=wR eu
  obtain ⟨h1,h2,h3⟩:=hu u um
  have rm:(u.2.2.1,u.2.2.2)∈rs:=by rw[<- eus];exact zY (f:=(·.2.2)) um
  refine ⟨u.1,_,rfl,SqT.of (s2 _ _ h1),rfl,_,_,rfl,_,_,rfl,rfl,?_⟩
  refine ⟨_,rfl,_,_,rfl,rfl,_,rfl,bN (λz0=>aS (⟨(by show 0<=wo;decide),λo ho=>q _ _ none (s2.trans (ab ho _)) ⟨o,rfl,ae⟩ (λz =>?_) λ_=>rfl⟩)) λz0 =>?_⟩
  ·have:=(z.1 _ rm).1
   have z0:=of_decide_eq_true z0
   have:1<=u.2.2.2:=this
   lia
  have sh1:1<=u.2.2.2:=by have:=mt decide_eq_true z0;lia
  refine ⟨_,rfl,_,rfl,dJ.mpr ⟨r,u.2.1,m,ts,u.2.2.1,rfl,W.same s2,m2,s2 _ _ h2,h3,λb1 H3 s3 hb=>⟨_,rfl,?_⟩⟩⟩
  have s23:=s2.trans s3
  cases b1 with
  | false =>
   refine aS (aS (⟨(by show 0<=wo;decide),λo ho=>q _ _ none (s23.trans (ab ho _)) ⟨o,rfl,ae⟩ (λz =>?_) λ_=>rfl⟩))
   exact absurd (hb.mpr (z.1 _ rm).2.1) wG
  | true =>
   have ir:=hb.mp rfl
   refine aT ⟨_,rfl,u.2.1,rfl,⟨_,SqT.of (s23 _ _ h2)⟩,gD (λv=>decide (v∈T)) V.bl (s23 _ _ h2) (by lia) (λv hv R hR =>?_) λl3 hl3 =>?_⟩
   ·refine ⟨_,rfl,_,rfl,t,_,rfl,.inl (SqL.of (s23 _ _ et)),rfl,aW T,?_⟩
    show R (V.bl (inV (.int v) (T.map V.int))) _
    rw[eJ]
    exact hR
   refine ⟨l3,_,rfl,SqL.of ae,_,rfl,bN (λz1 =>?_) λz1 =>?_⟩
   ·have s4:=s23.trans (ab hl3 (.lst ((u.2.2.1.map λv=>decide (v∈T)).map V.bl)))
    refine ⟨(by show 0<=wo;decide),λo ho=>q _ _ none (s4.trans (ab ho _)) ⟨o,rfl,ae⟩ (λz =>?_) λ_=>rfl⟩
    obtain ⟨v,hv,hT⟩:=oU.mp z1
    exact absurd hT ((z.1 _ rm).2.2.1 v hv)
   have s4:=s23.trans (ab hl3 (.lst ((u.2.2.1.map λv=>decide (v∈T)).map V.bl)))
   generalize upd H3 l3 (.lst ((u.2.2.1.map λv=>decide (v∈T)).map V.bl))=H4 at s4
   refine ⟨_,rfl,u.2.1,rfl,⟨_,SqT.of (s4 _ _ h2)⟩,gD (λv=>decide (v∈Kp)) V.bl (s4 _ _ h2) (by lia) (λv hv R hR =>?_) λl5 hl5 =>?_⟩
   ·refine ⟨_,rfl,_,rfl,k,_,rfl,.inl (SqL.of (s4 _ _ ek)),rfl,aW Kp,?_⟩
    show R (V.bl (inV (.int v) (Kp.map V.int))) _
    rw[eJ]
    exact hR
   have s5:=s4.trans (ab hl5 (.lst ((u.2.2.1.map λv=>decide (v∈Kp)).map V.bl)))
   refine ⟨l5,_,rfl,SqL.of ae,_,rfl,bN (λz2 =>?_) λz2 =>?_⟩
   ·refine ⟨(by show 0<=wo;decide),λo ho=>q _ _ none (s5.trans (ab ho _)) ⟨o,rfl,ae⟩ (λz =>?_) λ_=>rfl⟩
    obtain ⟨v,hv,hK⟩:=(z.1 _ rm).2.2.2
    exact absurd (iK.mp z2 v hv) hK
   refine ⟨_,rfl,_,rfl,_,_,rfl,rfl,⟨some (.ref u.2.1),some (.int u.2.2.2),?_⟩,s5,λr' hr' =>?_⟩
   ·rw[cut eu,wB,B0]
    show _=[_,_,_,_,_,some (V.int (wsum ws T+(((rs.take i).map (·.2)).sum+(u.2.2.2+0)))),_,_,_,_]
    rw[C5, <- Int.add_assoc];rfl
   ·rw[cut eu] at hr'
    rcases wC.mp hr' with z | z
    ·exact al r' z
    ·rw[wx.mp z]
     refine ⟨sh1,ir,λv hv hT=>z1 (oU.mpr ⟨v,hv,hT⟩),?_⟩
     have:¬ ∀v∈u.2.2.1,v∈Kp:=λh=>z2 (iK.mpr h)
     refine Bd λc=>this λv hv=>Bd λd=>c ⟨v,hv,d⟩
 rintro σ H2 ⟨⟨c6,c7,rfl⟩,s2,al⟩
 have lr:rs.length=us.length:=by rw[<- eus,wd]
 rw[lum, <- lr,yE] at al ⊢
 let W1:Nat->St->Hp->Prop:=λi σ H'=>(∃c8 c9,σ=[some (.ref r),some (.ref wa),some (.ref t),some (.ref k),some (.ref p),some (.int (wsum ws T+(rs.map (·.2)).sum)),c6,c7,c8,c9])/\aK H H'/\∀j:Nat,j<i->(j:Int)∉Kp->laid rs j<=ws.getD j 0
 refine ⟨_,rfl,r,_,0,_,rfl,rfl,SqT.of (s2 _ _ e1),rfl,(m:Int),rfl,by lia,by lia,dF W1 ⟨⟨_,_,rfl⟩,s2,λj h=>absurd h (BZ j)⟩ ?_ ?_⟩
 ·rintro i σ H3 hi ⟨⟨c8,c9,rfl⟩,s3,hj⟩
  have him:i<m:=by lia
  rw[B2]
  refine ⟨_,rfl,p,rfl,⟨_,SqL.of (s3 _ _ hp)⟩,mX (ts:=us.map λu=>(u.1,V.ref u.2.1,V.int u.2.2.2)) (λj ys H'=>H'=H3/\ys=(((rs.take j).filter λr=>decide ((i:Int)∈r.1)).map (·.2)).map V.int) (by decide) ⟨rfl,rfl⟩ (by rw[wd];exact aU (by lia)) (λj ys H' _ h=>⟨by rw[h.1,DL];exact SqL.of (s3 _ _ hp),λt' ht' =>?_⟩) ?_ ?_⟩
  ·obtain ⟨u,hu',rfl⟩:=yv.mp ht'
   rw[h.1]
   exact SqT.of (s3 _ _ (hu u hu').1)
  ·rintro j t' ys H4 ht' _ ⟨rfl,rfl⟩ R1 R0 r1 r0
   rw[xh] at ht'
   obtain ⟨u,eu,rfl⟩:=Option.map_eq_some_iff.mp ht'
   have h2:=(hu u (wR eu)).2.1
   refine ⟨_,rfl,_,rfl,u.2.1,_,rfl,.inr (SqT.of (s3 _ _ h2)),rfl,aW _,_,rfl,?_⟩
   show if inV (.int i) (u.2.2.1.map V.int)=true then _ else _
   rw[eJ]
   have e5:((rs.take (j+1)).filter λr=>decide ((i:Int)∈r.1))=((rs.take j).filter λr=>decide ((i:Int)∈r.1))++if (i:Int)∈u.2.2.1 then [(u.2.2.1,u.2.2.2)] else []:=by
    rw[cut eu,A3]
    congr 1
    by_cases c:(i:Int)∈u.2.2.1
    ·rw[if_pos c,Ag (by exact decide_eq_true c)];rfl
    ·rw[if_neg c,Ah (by exact λz=>c (of_decide_eq_true z))];rfl
   by_cases c:(i:Int)∈u.2.2.1
   ·rw[decide_eq_true c]
    refine aS ⟨_,rfl,r1 _ _ ⟨rfl,?_⟩⟩
    rw[e5,if_pos c,wB,wB];rfl
   ·rw[decide_eq_false c]
    refine aT (r0 _ ⟨rfl,?_⟩)
    rw[e5,if_neg c,xM]
  ·rintro ys H4 _ ⟨rfl,rfl⟩ l4 hl4
   rw[wd, <- lr,yE]
   have s4:=s3.trans (ab hl4 (.lst (((rs.filter λr=>decide ((i:Int)∈r.1)).map (·.2)).map V.int)))
   refine ⟨l4,_,rfl,ae,?_⟩
   generalize upd H4 l4 (.lst (((rs.filter λr=>decide ((i:Int)∈r.1)).map (·.2)).map V.int))=H5 at s4
   refine ⟨_,rfl,_,rfl,k,_,rfl,.inl (SqL.of (s4 _ _ ek)),rfl,aW Kp,_,rfl,?_⟩
   show if (if true=true then !inV (.int i) (Kp.map V.int) else _)=true then _ else _
   rw[if_pos rfl,eJ]
   by_cases h2:(i:Int)∈Kp
   ·rw[decide_eq_true h2]
    refine aT (aT ⟨⟨_,_,rfl⟩,s4,λj hj' hk =>?_⟩)
    by_cases c:j=i
    ·subst c;exact absurd h2 hk
    ·exact hj j (by lia) hk
   rw[decide_eq_false h2]
   refine aS ⟨_,rfl,_,rfl,_,rfl,wa,_,i,_,rfl,rfl,SqL.of (s4 _ _ hw),iz (by lia),_,_,rfl,rfl,_,rfl,bN (λz3=>⟨(by show 0<=wo;decide),λo ho=>q _ _ none (s4.trans (ab ho _)) ⟨o,rfl,ae⟩ (λz =>?_) λ_=>rfl⟩) λz3 =>?_⟩
   ·have h1:=z.2 i him h2
    have h3:=of_decide_eq_true z3
    unfold laid at h1
    lia
   ·refine ⟨⟨_,_,rfl⟩,s4,λj hj' hk =>?_⟩
    by_cases c:j=i
    ·subst c
     have h3:=mt decide_eq_true z3
     unfold laid
     lia
    ·exact hj j (by lia) hk
 rintro σ H3 ⟨⟨c8,c9,rfl⟩,s3,hj⟩
 have RO:cB m (ts.map (·.2)) ws T Kp rs:=⟨al,λi hi=>hj i (by lia)⟩
 exact ⟨_,rfl,(by show 2<=wo;decide),λo ho=>q _ _ (some (some (wsum ws T+(rs.map (·.2)).sum))) (s3.trans (ab ho _)) ⟨o,rfl,ae⟩ (λ_=>rfl) λz=>absurd RO z⟩
end
@[irreducible] def nR:Nat->Sp
 | 0=>λ_ _ _ _=>False
 | n+1=>λvs H Q _=>∃(r wa t k a:Addr) (m:Nat) (ts:List (Addr×List Int)) (ws T Kp:List Int) (tr:Tr),vs=[.ref r,.ref wa,.ref t,.ref k,.ref a]/\Wb H r m ts/\m<=200/\H wa=some (.lst (ws.map V.int))/\ws.length=m/\H t=some (.lst (T.map V.int))/\(∀v∈T,0<=v/\v<m)/\T.length+n<=1000/\H k=some (.lst (Kp.map V.int))/\Kp.length+n<=1000/\bK true H n a tr/\∀(v:V) (H':Hp),aK H H'->ShL H' v (shw m (ts.map (·.2)) ws T Kp tr)->Q v H'
theorem dM {n:Nat}{vs:List V}{H:Hp}{Q:VK}{E:XK}:nR (n+1) vs H Q E↔∃(r wa t k a:Addr) (m:Nat) (ts:List (Addr×List Int)) (ws T Kp:List Int) (tr:Tr),vs=[.ref r,.ref wa,.ref t,.ref k,.ref a]/\Wb H r m ts/\m<=200/\H wa=some (.lst (ws.map V.int))/\ws.length=m/\H t=some (.lst (T.map V.int))/\(∀v∈T,0<=v/\v<m)/\T.length+n<=1000/\H k=some (.lst (Kp.map V.int))/\Kp.length+n<=1000/\bK true H n a tr/\∀(v:V) (H':Hp),aK H H'->ShL H' v (shw m (ts.map (·.2)) ws T Kp tr)->Q v H':=by
 unfold nR
 exact yH
theorem tV {vs:List V}{H:Hp}{Q:VK}{E:XK}:¬ nR 0 vs H Q E:=by
 unfold nR
 exact id
theorem rZ {m:Nat}{ns:List (List Int)}{ws T Kp Z:List Int}(h:IsR ns Z/\∀v∈Z,v∈Kp):shw m ns ws T Kp (.ring Z)=some none:=by rw[shw,if_pos h]
theorem kr {m:Nat}{ns:List (List Int)}{ws T Kp Z:List Int}(h:¬ (IsR ns Z/\∀v∈Z,v∈Kp)):shw m ns ws T Kp (.ring Z)=none:=by rw[shw,if_neg h]
theorem r6 {m:Nat}{ns:List (List Int)}{ws T Kp:List Int}{rs:List (List Int×Int)}(h:cB m ns ws T Kp rs):shw m ns ws T Kp (.rows rs)=some (some (wsum ws T+(rs.map (·.2)).sum)):=by rw[shw,if_pos h]
theorem qo {m:Nat}{ns:List (List Int)}{ws T Kp:List Int}{rs:List (List Int×Int)}(h:¬ cB m ns ws T Kp rs):shw m ns ws T Kp (.rows rs)=none:=by rw[shw,if_neg h]
theorem dq {K:wc}{H:Hp}{n:Nat}(z:Str):EqS K H n (.str z) (.str z):=by cases n <;> exact .inr (.inl ⟨z,rfl,rfl⟩)
theorem iM {K:wc}{H:Hp}{n:Nat}(z:Int):EqS K H n (.int z) (.int z):=by cases n <;> exact .inl ⟨z,rfl,rfl⟩
section
variable  {P:wL}{w:xg}{K:wc}{mg:Str->Option wm}{base:Heap}{f T:Addr}{fd:xB}
theorem gF:aO ["web", "weights", "taken", "kept", "tree", "place", "first", "second"] ["web", "weights", "taken", "kept", "tree"] (aB kX):=⟨rfl,rfl,rfl,by decide +kernel,rfl,by decide +kernel,by decide +kernel⟩
theorem fK:(["place", "kept"]:List Str).Nodup:=by decide +kernel
theorem r9 (F:Fun K "_law_shows" "_law_shows" kX f fd)(B:Blt mg)(n:Nat)(cLShows:Cal P w K mg base (3+n) "_law_shows" ["web", "weights", "taken", "kept", "tree"] (nR n))(cLLeaf:Cal P w K mg base 3 "_law_leaf" ["web", "weights", "taken", "kept", "rows"] lp)(cLIsRing:Cal P w K mg base 2 "_law_is_ring" ["web", "ring"] kq):bF P w K mg base CX0 (3+n+1) f fd ["web", "weights", "taken", "kept", "tree"] (nR (n+1)):=by
 refine F.ok gF (λvs H Q E h =>?_) (λcdv A outer s H vs Q E hr h =>?_)
 ·obtain ⟨_,_,_,_,_,_,_,_,_,_,_,rfl,_⟩:=dM.mp h
  rfl
 obtain ⟨r,wa,t,k,a,m,ts,ws,T,Kp,tr,rfl,W,m2,hw,lw,et,tm,lt,ek,lk,tr0,q⟩:=dM.mp h
 refine ⟨_,(@ah _ _ _ _ _ (@aN _ _ _ _ _ _ _ _ (aj bo (@ay _ _ _ _ _ _ _ av (pv 4) ag (λ_ _=>rfl)) aV (ax _)) (@ah _ _ _ _ _ (@aN _ _ _ _ _ _ _ _ (PW.pt (cz (cf (aq cLIsRing hr (by lia) rfl (@aa _ _ _ _ _ (pv 0) (@aa _ _ _ _ _ (@ay _ _ _ _ _ _ _ av (pv 4) ag (λ_ _=>rfl)) af rfl) rfl))) (bW (cf (ao (eV rfl) rfl B.b_all jq (@aa _ _ _ _ _ (bD ["place", "kept"] [none,some 3] rfl (@cW _ _ _ _ (@ay _ _ _ _ _ _ _ av (pv 4) ag (λ_ _=>rfl))) rfl (λ_ _ _ _ _=>(aD (i:=0) fK rfl (Or.inl rfl))) (λ_ _ _ _ _=>bQ) (λ_ _ _ _ _=>(bT (eZ (K:=K)) (pv 0) (pv 1) rfl))) af rfl)))))) (@ai _ _ _ (@au _ _ _ _ (@aI _ _ _ _ (@aa _ _ _ _ _ aV af rfl)))) az)
   (@ai _ _ _ (@au _ _ _ _ (@aI _ _ _ _ af)))) az)
  (@ah _ _ _ _ _ (@aN _ _ _ _ _ _ _ _ (aj bo (@ay _ _ _ _ _ _ _ av (pv 4) ag (λ_ _=>rfl)) aV (ax _)) (@ai _ _ _ (@au _ _ _ _ (aq cLLeaf hr (by lia) rfl (@aa _ _ _ _ _ (pv 0) (@aa _ _ _ _ _ (pv 1) (@aa _ _ _ _ _ (pv 2) (@aa _ _ _ _ _ (pv 3) (@aa _ _ _ _ _ (@ay _ _ _ _ _ _ _ av (pv 4) ag (λ_ _=>rfl)) af rfl) rfl) rfl) rfl) rfl)))) az)
  (@ah _ _ _ _ _ (@aH _ _ 5 _ _ _ _ gF.nd rfl (Or.inl rfl) (@ay _ _ _ _ _ _ _ av (pv 4) ag (λ_ _=>rfl)) rfl (by first | exact .inl rfl | exact .inr rfl | assumption))
  (@ah _ _ _ _ _ (@aN _ _ _ _ _ _ _ _ (PW.pt (cg (aj qc (pv 5) (bb ip rfl B.b_range me (@aa _ _ _ _ _ (@ay _ _ _ _ _ _ _ av (pv 0) ag (λ_ _=>rfl)) af rfl)) rfl) (cg (aj gP (pv 5) (pv 2) rfl) (cu (aj gP (pv 5) (pv 3) rfl))))) (@ai _ _ _ (@au _ _ _ _ (@aI _ _ _ _ af))) az)
  (@ah _ _ _ _ _ (@aH _ _ 6 _ _ _ _ gF.nd rfl (Or.inl rfl) (aq cLShows hr (wq _) rfl (@aa _ _ _ _ _ (pv 0) (@aa _ _ _ _ _ (pv 1) (@aa _ _ _ _ _ (@aE _ _ _ _ _ _ _ _ bY (pv 2) (@aI _ _ _ _ (@aa _ _ _ _ _ (pv 5) af rfl))) (@aa _ _ _ _ _ (pv 3) (@aa _ _ _ _ _ (@ay _ _ _ _ _ _ _ av (pv 4) ag (λ_ _=>rfl)) af rfl) rfl) rfl) rfl) rfl)) rfl (by first | exact .inl rfl | exact .inr rfl | assumption))
  (@ah _ _ _ _ _ (@aH _ _ 7 _ _ _ _ gF.nd rfl (Or.inl rfl) (aq cLShows hr (wq _) rfl (@aa _ _ _ _ _ (pv 0) (@aa _ _ _ _ _ (pv 1) (@aa _ _ _ _ _ (pv 2) (@aa _ _ _ _ _ (@aE _ _ _ _ _ _ _ _ bY (pv 3) (@aI _ _ _ _ (@aa _ _ _ _ _ (pv 5) af rfl))) (@aa _ _ _ _ _ (@ay _ _ _ _ _ _ _ av (pv 4) ag (λ_ _=>rfl)) af rfl) rfl) rfl) rfl) rfl)) rfl (by first | exact .inl rfl | exact .inr rfl | assumption))
  (@ah _ _ _ _ _ (@aN _ _ _ _ _ _ _ _ (PW.pt (cg (aj (cP hr) (pv 6) (@aI _ _ _ _ af) (ax _)) (cu (aj (cP hr) (pv 7) (@aI _ _ _ _ af) (ax _))))) (@ai _ _ _ (@au _ _ _ _ (@aI _ _ _ _ af))) az)
  (@ah _ _ _ _ _ (@aN _ _ _ _ _ _ _ _ (PW.pt (cg (aj (cP hr) (pv 6) (@aI _ _ _ _ (@aa _ _ _ _ _ aV af rfl)) (ax _)) (cu (aj (cP hr) (pv 7) (@aI _ _ _ _ (@aa _ _ _ _ _ aV af rfl)) (ax _))))) (@ai _ _ _ (@au _ _ _ _ (@ay _ _ _ _ _ _ _ bC (@aI _ _ _ _ (@aa _ _ _ _ _ (pv 6) (@aa _ _ _ _ _ (pv 7) af rfl) rfl)) (bb pq rfl B.b_int rG (@aa _ _ _ _ _ (bT (cP hr) (pv 6) (@aI _ _ _ _ (@aa _ _ _ _ _ aV af rfl)) (ax _)) af rfl)) (λ_ _=>rfl)))) az)
  (@ai _ _ _ (@au _ _ _ _ (@aI _ _ _ _ (@aa _ _ _ _ _ aV (@aa _ _ _ _ _ (ao (cS rfl) rfl B.b_min dZ (@aa _ _ _ _ _ (@ay _ _ _ _ _ _ _ bC (pv 6) ag (λ_ _=>rfl)) (@aa _ _ _ _ _ (@ay _ _ _ _ _ _ _ bC (pv 7) ag (λ_ _=>rfl)) af rfl) rfl)) af rfl) rfl)))))))))))),?_⟩
 obtain ⟨tt,e1,e2⟩:=W.at'
 cases tr with
 | ring Z =>
  obtain ⟨p,ea,ep,lz⟩:=tr0
  refine ⟨_,rfl,a,_,0,_,rfl,rfl,SqT.of ea,rfl,rfl,_,rfl,?_⟩
  rw[decide_eq_true (rfl:V.str "ring" = V.str "ring")]
  refine aS ⟨_,rfl,_,rfl,a,_,1,_,rfl,rfl,SqT.of ea,rfl,dJ.mpr ⟨r,p,m,ts,Z,rfl,W,m2,ep,lz,λb1 H1 s1 hb=>⟨_,rfl,?_⟩⟩⟩
  cases b1 with
  | false =>
   refine aT (aT ⟨(by show 0<=wo;decide),λo ho=>q _ _ (s1.trans (ab ho _)) ?_⟩)
   rw[kr λz=>wG (hb.mpr z.1)]
   exact ⟨o,rfl,ae⟩
  | true =>
   refine aS ⟨_,rfl,a,_,1,_,rfl,rfl,SqT.of (s1 _ _ ea),rfl,p,rfl,⟨_,SqT.of (s1 _ _ ep)⟩,gD (λv=>decide (v∈Kp)) V.bl (s1 _ _ ep) (by lia) (λv hv R hR =>?_) λl2 hl2 =>?_⟩
   ·refine ⟨_,rfl,_,rfl,k,_,rfl,.inl (SqL.of (s1 _ _ ek)),rfl,aW Kp,?_⟩
    show R (V.bl (inV (.int v) (Kp.map V.int))) _
    rw[eJ]
    exact hR
   have s2:=s1.trans (ab hl2 (.lst ((Z.map λv=>decide (v∈Kp)).map V.bl)))
   refine ⟨l2,_,rfl,SqL.of ae,_,rfl,bN (λz =>?_) λz =>?_⟩
   ·refine ⟨(by show 1<=wo;decide),λo ho=>q _ _ (s2.trans (ab ho _)) ?_⟩
    rw[rZ ⟨hb.mp rfl,iK.mp z⟩]
    exact ⟨o,rfl,ae⟩
   ·refine ⟨(by show 0<=wo;decide),λo ho=>q _ _ (s2.trans (ab ho _)) ?_⟩
    rw[kr λh=>z (iK.mpr h.2)]
    exact ⟨o,rfl,ae⟩
 | rows rs =>
  obtain ⟨p,ea,R⟩:=tr0
  refine ⟨_,rfl,a,_,0,_,rfl,rfl,SqT.of ea,rfl,rfl,_,rfl,?_⟩
  rw[decide_eq_false (λz=>oK (V.str.inj z))]
  refine aT ⟨_,rfl,a,_,0,_,rfl,rfl,SqT.of ea,rfl,rfl,_,rfl,?_⟩
  rw[decide_eq_true (rfl:V.str "shares" = V.str "shares")]
  refine aS ⟨_,rfl,_,rfl,_,rfl,_,rfl,_,rfl,a,_,1,_,rfl,rfl,SqT.of ea,rfl,f6.mpr ⟨r,wa,t,k,p,m,ts,ws,T,Kp,rs,rfl,W,m2,hw,lw,et,tm,by lia,ek,R,λv H' b s' hs h1 h2=>q v H' s' ?_⟩⟩
  by_cases cc:cB m (ts.map (·.2)) ws T Kp rs
  ·rw[r6 cc, <- h1 cc];exact hs
  ·rw[qo cc, <- h2 cc];exact hs
 | part v x y =>
  obtain ⟨n',p,p',rfl,ea,hx,hy⟩:=tr0
  refine ⟨_,rfl,a,_,0,_,rfl,rfl,SqT.of ea,rfl,rfl,_,rfl,?_⟩
  rw[decide_eq_false (λz=>oM (V.str.inj z))]
  refine aT ⟨_,rfl,a,_,0,_,rfl,rfl,SqT.of ea,rfl,rfl,_,rfl,?_⟩
  rw[decide_eq_false (λz=>oN (V.str.inj z))]
  refine aT ⟨_,rfl,a,_,1,_,rfl,rfl,SqT.of ea,rfl,?_⟩
  refine ⟨_,rfl,_,rfl,r,_,0,_,rfl,rfl,SqT.of e1,rfl,(m:Int),rfl,λg1 hg1 =>?_⟩
  have s1:=ab hg1 (.rng 0 m)
  refine ⟨v,m,g1,rfl,rfl,ae,_,rfl,?_⟩
  generalize upd H g1 (.rng 0 m)=H1 at s1
  by_cases c0:0<=v/\v<(m:Int)
  case neg =>
   rw[decide_eq_false c0]
   refine aS (aS ⟨(by show 0<=wo;decide),λo ho=>q _ _ (s1.trans (ab ho _)) ?_⟩)
   rw[iH λz=>c0 ⟨z.1,z.2.1⟩]
   exact ⟨o,rfl,ae⟩
  rw[decide_eq_true c0]
  refine aT ⟨_,rfl,_,rfl,t,_,rfl,.inl (SqL.of (s1 _ _ et)),rfl,aW T,_,rfl,?_⟩
  show if inV (.int v) (T.map V.int)=true then _ else _
  rw[eJ]
  by_cases c1:v∈T
  ·rw[decide_eq_true c1]
   refine aS (aS ⟨(by show 0<=wo;decide),λo ho=>q _ _ (s1.trans (ab ho _)) ?_⟩)
   rw[iH λz=>z.2.2.1 c1]
   exact ⟨o,rfl,ae⟩
  rw[decide_eq_false c1]
  refine aT ⟨_,rfl,_,rfl,k,_,rfl,.inl (SqL.of (s1 _ _ ek)),rfl,aW Kp,_,rfl,?_⟩
  show if inV (.int v) (Kp.map V.int)=true then _ else _
  rw[eJ]
  by_cases c2:v∈Kp
  ·rw[decide_eq_true c2]
   refine aS ⟨(by show 0<=wo;decide),λo ho=>q _ _ (s1.trans (ab ho _)) ?_⟩
   rw[iH λz=>z.2.2.2 c2]
   exact ⟨o,rfl,ae⟩
  rw[decide_eq_false c2]
  have op:Opn m T Kp v:=⟨c0.1,c0.2,c1,c2⟩
  rw[rP op] at q
  refine aT ⟨_,rfl,_,rfl,_,rfl,_,rfl,(by show 1<=wo;decide),λo ho =>?_⟩
  have s2:=s1.trans (ab ho (.lst [.int v]))
  refine ⟨t,o,_,_,rfl,rfl,SqL.of (s2 _ _ et),SqL.of ae,aU (by rw[wd];show _+1<=_;lia),λt2 ht2 =>?_⟩
  have s3:=s2.trans (ab ht2 (.lst (T.map V.int++[.int v])))
  have e3:upd (upd H1 o (.lst [.int v])) t2 (.lst (T.map V.int++[.int v])) t2=some (.lst ((T++[v]).map V.int)):=by rw[ae,wB];rfl
  generalize upd (upd H1 o (.lst [.int v])) t2 (.lst (T.map V.int++[.int v]))=H3 at s3 e3
  refine ⟨_,rfl,_,rfl,a,_,2,_,rfl,rfl,SqT.of (s3 _ _ ea),rfl,dM.mpr ⟨r,wa,t2,k,p,m,ts,ws,T++[v],Kp,x,rfl,W.same s3,m2,s3 _ _ hw,lw,e3,λu hu =>?_,by rw[wj];show _+1+_<=_;lia,s3 _ _ ek,by lia,hx.same s3,λv1 H4 s4 h1 =>?_⟩⟩
  ·rcases wC.mp hu with z | z
   ·exact tm u z
   ·rw[wx.mp z];exact c0
  have s34:=s3.trans s4
  refine ⟨_,rfl,_,rfl,_,rfl,_,rfl,_,rfl,(by show 1<=wo;decide),λo5 ho5 =>?_⟩
  have s5:=s34.trans (ab ho5 (.lst [.int v]))
  have h1':=h1.same (ab ho5 (.lst [.int v]))
  refine ⟨k,o5,_,_,rfl,rfl,SqL.of (s5 _ _ ek),SqL.of ae,aU (by rw[wd];show _+1<=_;lia),λk2 hk2 =>?_⟩
  have s6:=s5.trans (ab hk2 (.lst (Kp.map V.int++[.int v])))
  have e6:upd (upd H4 o5 (.lst [.int v])) k2 (.lst (Kp.map V.int++[.int v])) k2=some (.lst ((Kp++[v]).map V.int)):=by rw[ae,wB];rfl
  have h1':=h1'.same (ab hk2 (.lst (Kp.map V.int++[.int v])))
  generalize upd (upd H4 o5 (.lst [.int v])) k2 (.lst (Kp.map V.int++[.int v]))=H6 at s6 e6 h1'
  refine ⟨_,rfl,a,_,3,_,rfl,rfl,SqT.of (s6 _ _ ea),rfl,dM.mpr ⟨r,wa,t,k2,p',m,ts,ws,T,Kp++[v],y,rfl,W.same s6,m2,s6 _ _ hw,lw,s6 _ _ et,tm,by lia,e6,by rw[wj];show _+1+_<=_;lia,hy.same s6,λv2 H7 s7 h2 =>?_⟩⟩
  have s67:=s6.trans s7
  have h1':=h1'.same s7
  generalize shw m (ts.map (·.2)) ws (T++[v]) Kp x=X1 at h1' q
  generalize shw m (ts.map (·.2)) ws T (Kp++[v]) y=X2 at h2 q
  obtain ⟨f1,rfl,ef1⟩:=h1'
  obtain ⟨f2,rfl,ef2⟩:=h2
  refine ⟨_,rfl,(by show 0<=wo;decide),λo8 ho8 =>?_⟩
  have g8:=ab ho8 (.lst [])
  refine ⟨f1,o8,_,_,rfl,rfl,SqL.of (g8 _ _ ef1),SqL.of ae,?_⟩
  have no:∀(H9:Hp),aK H7 H9->both X1 X2=none->(0<=wo/\∀p,H9 p=none->Q (.ref p) (upd H9 p (.lst []))):=λH9 s9 e9=>⟨by decide,λo ho=>q _ _ (s67.trans (s9.trans (ab ho _))) (by rw[e9];exact ⟨o,rfl,ae⟩)⟩
  cases X1 with
  | none=>exact .inr ⟨.nil,_,rfl,aS (aS (no _ g8 rfl))⟩
  | some x1 =>
   have l1:(itL (some x1)).length≠([]:List V).length:=by cases x1 <;> simp[itL,MnR.its]
   refine .inl ⟨l1,_,rfl,aT ⟨_,rfl,(by show 0<=wo;decide),λo9 ho9 =>?_⟩⟩
   have g9:=g8.trans (ab ho9 (.lst []))
   refine ⟨f2,o9,_,_,rfl,rfl,SqL.of (g9 _ _ ef2),SqL.of ae,?_⟩
   cases X2 with
   | none=>exact .inr ⟨.nil,_,rfl,aS (no _ g9 rfl)⟩
   | some x2 =>
    have l2:(itL (some x2)).length≠([]:List V).length:=by cases x2 <;> simp[itL,MnR.its]
    refine .inl ⟨l2,_,rfl,aT ?_⟩
    generalize upd (upd H7 o8 (.lst [])) o9 (.lst [])=H9 at g9
    have s9:=s67.trans g9
    have q:∀(v:V) (H':Hp),aK H H'->ShL H' v (some (ml x1 x2))->Q v H':=q
    refine ⟨_,rfl,(by show 1<=wo;decide),λoa hoa =>?_⟩
    have ga:=g9.trans (ab hoa (.lst [.str "never"]))
    refine ⟨f1,oa,_,_,rfl,rfl,SqL.of (ga _ _ ef1),SqL.of ae,?_⟩
    cases x1 with
    | none =>
     refine .inr ⟨.cons (dq _) .nil,_,rfl,aS (aS ⟨_,rfl,_,rfl,(by show 2<=wo;decide),λob hob =>?_⟩)⟩
     have gb:=ga.trans (ab hob (.lst [.ref f1,.ref f2]))
     have eb:upd (upd H9 oa (.lst [.str "never"])) ob (.lst [.ref f1,.ref f2]) ob=some (.lst [.ref f1,.ref f2]):=ae
     generalize upd (upd H9 oa (.lst [.str "never"])) ob (.lst [.ref f1,.ref f2])=Hb at gb eb
     refine ⟨_,rfl,(by show 1<=wo;decide),λoc hoc =>?_⟩
     have gc:=gb.trans (ab hoc (.lst [.str "never"]))
     have ec:=(ab hoc (.lst [.str "never"])) _ _ eb
     refine ⟨f1,oc,_,_,rfl,rfl,SqL.of (gc _ _ ef1),SqL.of ae,.inr ⟨.cons (dq _) .nil,.inr ⟨true,rfl,ob,_,1,_,rfl,rfl,SqL.of ec,rfl,q _ _ (s67.trans gc) ⟨f2,rfl,?_⟩⟩⟩⟩
     rw[gc _ _ ef2]
     cases x2 <;> rfl
    | some n1 =>
     refine .inl ⟨by simp[itL,MnR.its],_,rfl,aT ⟨_,rfl,(by show 1<=wo;decide),λob hob =>?_⟩⟩
     have gb:=ga.trans (ab hob (.lst [.str "never"]))
     refine ⟨f2,ob,_,_,rfl,rfl,SqL.of (gb _ _ ef2),SqL.of ae,?_⟩
     cases x2 with
     | none =>
      refine .inr ⟨.cons (dq _) .nil,_,rfl,aS ⟨_,rfl,_,rfl,(by show 2<=wo;decide),λoc hoc =>?_⟩⟩
      have gc:=gb.trans (ab hoc (.lst [.ref f1,.ref f2]))
      have ec:upd (upd (upd H9 oa (.lst [.str "never"])) ob (.lst [.str "never"])) oc (.lst [.ref f1,.ref f2]) oc=some (.lst [.ref f1,.ref f2]):=ae
      generalize upd (upd (upd H9 oa (.lst [.str "never"])) ob (.lst [.str "never"])) oc (.lst [.ref f1,.ref f2])=Hc at gc ec
      refine ⟨_,rfl,(by show 1<=wo;decide),λod hod =>?_⟩
      have gd:=gc.trans (ab hod (.lst [.str "never"]))
      have ed:=(ab hod (.lst [.str "never"])) _ _ ec
      refine ⟨f1,od,_,_,rfl,rfl,SqL.of (gd _ _ ef1),SqL.of ae,.inl ⟨by simp[itL,MnR.its],.inr ⟨false,rfl,oc,_,0,_,rfl,rfl,SqL.of ed,rfl,q _ _ (s67.trans gd) ⟨f1,rfl,gd _ _ ef1⟩⟩⟩⟩
     | some n2 =>
      refine .inl ⟨by simp[itL,MnR.its],_,rfl,aT ⟨_,rfl,f1,_,1,_,rfl,rfl,SqL.of (gb _ _ ef1),rfl,_,rfl,f2,_,1,_,rfl,rfl,SqL.of (gb _ _ ef2),rfl,_,_,rfl,(by show 2<=wo;decide),λoc hoc=>q _ _ (s67.trans (gb.trans (ab hoc _))) ⟨oc,rfl,?_⟩⟩⟩
      rw[ae]
      unfold ml
      show _=some (HO.lst (itL (some (if decide (n2<n1)=true then some n2 else some n1))))
      by_cases c:n2<n1
      ·rw[decide_eq_true c,if_pos rfl,if_pos c];rfl
      ·rw[decide_eq_false c,if_neg wG,if_neg c];rfl
end
open PySem L2
theorem hX {α:Type}(f:α -> V)(Z:List α)(lo hi:Option Int):∃Y:List α,bM (Z.map f) lo hi=Y.map f/\Y.length<=Z.length/\∀v∈Y,v∈Z:=by
 refine ⟨(Z.drop (HT.sIx (Z.map f).length 0 lo)).take (HT.sIx (Z.map f).length (Z.map f).length hi-HT.sIx (Z.map f).length 0 lo),?_,?_,λv hv=>yN (yO hv)⟩
 ·unfold bM
  rw[zP,CD]
 ·rw[xX,yp];lia
theorem v9 {K:wc}{a:Addr}{Z:List Int}{k:Nat}{tc:TT}{te:TE}{τ:St}{H:Hp}{Q:VK}(f:Int->Bool)(e:H a=some (.tup (Z.map V.int)))(lz:Z.length<=5000)(hc:∀v∈Z,∀R:Bool->Hp->Prop,R (f v) H->tc (τ.set k (some (.int v))) H R)
  (hs:∀v∈Z,∀R:VK,R (.int v) H->te (τ.set k (some (.int v))) H R) (hd:∀l,H l=none->Q (.ref l) (upd H l (.lst ((Z.filter f).map V.int)))):fM (Itt K a) (dC k) tc te τ Q H:=by
 have lm:(Z.map V.int).length=Z.length:=wd _
 have cut:∀{i:Nat} {v:Int},Z[i]? = some v->(Z.take (i+1)).filter f=(Z.take i).filter f++if f v=true then [v] else []:=λ{i v} ev=>by
  rw[yS,ev,A3]
  congr 1
  show List.filter f [v]=_
  by_cases c:f v=true
  ·rw[if_pos c,Ag c];rfl
  ·rw[if_neg c,Ah c];rfl
 refine gR (xs:=Z.map V.int) (λi ys H'=>H'=H/\ys=((Z.take i).filter f).map V.int) ⟨rfl,rfl⟩ (by rw[lm];exact aU lz) (λi ys H' _ h=>by rw[h.1];exact SqT.of e) ?_ ?_
 ·rintro i x ys H' hx _ ⟨rfl,rfl⟩ R1 R0 r1 r0
  obtain ⟨v,ev,rfl⟩:=iu hx
  have vm:=wR ev
  refine hc v vm _ ?_
  cases c:f v with
  | true=>exact aS (hs v vm _ (r1 _ _ ⟨rfl,by rw[cut ev,if_pos c,wB];rfl⟩))
  | false=>exact aT (r0 _ ⟨rfl,by rw[cut ev,if_neg (by rw[c];exact wG),xM]⟩)
 ·rintro ys H' _ ⟨rfl,rfl⟩ l hl
  rw[lm,yE]
  exact hd l hl
theorem sd {n:Nat}{p a:Addr}{H H':Hp}(b:Bu n p H H')(ha:H' a=none)(hp:a≠p):H a=none:=by
 cases h:H a with
 | none=>rfl
 | some o=>rw[b.st _ _ hp h] at ha;cases ha
abbrev RU:=Addr×Addr×List Int×Int
def di (H:Hp)(u:RU):Prop:=H u.1=some (.tup [.ref u.2.1,.int u.2.2.2])/\H u.2.1=some (.tup (u.2.2.1.map V.int))/\u.2.2.1.length<=100/\u.2.2.1≠[]
theorem di.same {H H':Hp}{u:RU}(h:di H u)(s:aK H H'):di H' u:=⟨s _ _ h.1,s _ _ h.2.1,h.2.2⟩
theorem di.bu {H H':Hp}{u:RU}{p:Addr}(h:di H u)(b:Bu 1 p H H')(hp:Pt 1 H p):di H' u:=⟨b.tup hp h.1,b.tup hp h.2.1,h.2.2⟩
theorem di.put {H:Hp}{u:RU}{l:Addr}{xs ys:List V}(h:di H u)(e:H l=some (.lst xs)):di (upd H l (.lst ys)) u:=⟨by rw[aF (jP h.1 e nofun)];exact h.1,by rw[aF (jP h.2.1 e nofun)];exact h.2.1,h.2.2⟩
abbrev mF:Sp:=λvs H Q _=>∃i:Int,vs=[.int i]/\Q (.bl true) H
@[irreducible] def iN:Sp:=mF
theorem fk {vs:List V}{H:Hp}{Q:VK}{E:XK}:iN vs H Q E↔mF vs H Q E:=by
 delta iN
 exact yH
section
variable  {P:wL}{w:xg}{K:wc}{mg:Str->Option wm}{base:Heap}{f T:Addr}{fd:xB}
theorem se:aO ["found"] ["found"] (aB kT):=⟨rfl,rfl,rfl,by decide +kernel,rfl,by decide +kernel,by decide +kernel⟩
theorem sf (F:Fun K "_law_whole" "_law_whole" kT f fd)(B:Blt mg):bF P w K mg base CX0 1 f fd ["found"] iN:=by
 refine F.ok se (λvs H Q E h =>?_) (λcdv A outer s H vs Q E hr h =>?_)
 ·obtain ⟨_,rfl,_⟩:=fk.mp h
  rfl
 obtain ⟨i,rfl,q⟩:=fk.mp h
 refine ⟨_,(@ai _ _ _ (@au _ _ _ _ (mM (ao eU rfl B.b_isinstance dy (@aa _ _ _ _ _ (pv 0) (@aa _ _ _ _ _ (kB (v :=.ty "int") rfl B.b_int rG rfl) af rfl) rfl)) (qx (uy (ao eU rfl B.b_isinstance dy (@aa _ _ _ _ _ (pv 0) (@aa _ _ _ _ _ (kB (v :=.ty "bool") rfl B.b_bool tM rfl) af rfl) rfl))))))),?_⟩
 exact ⟨_,rfl,.int i, "int",_,true,rfl,.int i,rfl,_,rfl,aS ⟨_,rfl,.int i, "bool",_,false,rfl,.int i,rfl,_,rfl,q⟩⟩
end
abbrev oW:Sp:=λvs H Q _=>∃(v:V) (x:Option MnR.Rs),vs=[v]/\Shn H v x/\∀(u:V) (H':Hp),aK H H'->ShL H' u x->Q u H'
@[irreducible] def lq:Sp:=oW
theorem dj {vs:List V}{H:Hp}{Q:VK}{E:XK}:lq vs H Q E↔oW vs H Q E:=by
 delta lq
 exact yH
section
variable  {P:wL}{w:xg}{K:wc}{mg:Str->Option wm}{base:Heap}{f T:Addr}{fd:xB}
theorem tW:aO ["found"] ["found"] (aB nL):=⟨rfl,rfl,rfl,by decide +kernel,rfl,by decide +kernel,by decide +kernel⟩
theorem tX (F:Fun K "_law_told" "_law_told" nL f fd)(B:Blt mg)(cLWhole:Cal P w K mg base 1 "_law_whole" ["found"] iN):bF P w K mg base CX0 2 f fd ["found"] lq:=by
 refine F.ok tW (λvs H Q E h =>?_) (λcdv A outer s H vs Q E hr h =>?_)
 ·obtain ⟨_,_,rfl,_⟩:=dj.mp h
  rfl
 obtain ⟨v,x,rfl,hx,q⟩:=dj.mp h
 refine ⟨_,(@ah _ _ _ _ _ (@aN _ _ _ _ _ _ _ _ (aj mQ (pv 0) eQ (ax _)) (@ai _ _ _ (@au _ _ _ _ (@aI _ _ _ _ af))) az)
  (@ah _ _ _ _ _ (@aN _ _ _ _ _ _ _ _ (PW.pt (cg (fP (cf (ao eU rfl B.b_isinstance dy (@aa _ _ _ _ _ (pv 0) (@aa _ _ _ _ _ (kB (v :=.ty "tuple") rfl B.b_tuple da rfl) af rfl) rfl)))) (cu (PW.pt (cz (aj bo (ao aP rfl B.b_len bS (@aa _ _ _ _ _ (pv 0) af rfl)) ag (ax _)) (bW (fP (cf (aq cLWhole hr (by decide) rfl (@aa _ _ _ _ _ (@ay _ _ _ _ _ _ _ av (pv 0) ag (λ_ _=>rfl)) af rfl)))))))))) (@ai _ _ _ (@au _ _ _ _ (@aI _ _ _ _ (@aa _ _ _ _ _ aV af rfl)))) az)
  (@ai _ _ _ (@au _ _ _ _ (bb cK rfl B.b_list iE (@aa _ _ _ _ _ (pv 0) af rfl)))))),?_⟩
 cases x with
 | none =>
  cases (show v = .non from hx)
  exact ⟨_,rfl,rfl,_,rfl,aS ⟨(by show 0<=wo;decide),λo ho=>q _ _ (ab ho _) ⟨o,rfl,ae⟩⟩⟩
 | some x =>
  obtain ⟨a,rfl,ea⟩:=hx
  refine ⟨_,rfl,rfl,_,rfl,aT ⟨_,rfl,.ref a, "tuple",_,true,rfl,.tup ea,rfl,_,rfl,aT ⟨_,rfl,a,_,rfl,.inr (SqT.of ea),rfl,_,rfl,?_⟩⟩⟩
  cases x with
  | none =>
   exact aT (aT ⟨_,rfl,a,_,rfl,.inr (SqT.of ea),λl hl=>q _ _ (ab hl _) ⟨l,rfl,ae⟩⟩)
  | some n =>
   exact aS ⟨_,rfl,a,_,1,_,rfl,rfl,SqT.of ea,rfl,fk.mpr ⟨n,rfl,_,rfl,aT ⟨_,rfl,a,_,rfl,.inr (SqT.of ea),λl hl=>q _ _ (ab hl _) ⟨l,rfl,ae⟩⟩⟩⟩
end
abbrev mG:Sp:=λvs H Q _=>∃(p wa rl t k:Addr) (m:Nat) (ws T Kp:List Int) (us:List (Addr×List Int)),vs=[.ref p,.ref wa,.ref rl,.ref t,.ref k]/\Pt 1 H p/\H wa=some (.lst (ws.map V.int))/\ws.length=m/\m<=40/\H rl=some (.lst (us.map λu =>.ref u.1))/\Tus H us/\(∀u∈us,Pth m u.2)/\us.length<=4000/\H t=some (.lst (T.map V.int))/\t≠p/\H k=some (.lst (Kp.map V.int))/\k≠p/\∀(l:Addr) (rs:List (List Int×Int)) (H':Hp),Bu 1 p H H'->Rows true H' l rs->rs.length<=5->(∀r∈rs,r.1≠[]/\r.1.length<=100)->Q (.ref l) H'
@[irreducible] def iO:Sp:=mG
theorem cG {vs:List V}{H:Hp}{Q:VK}{E:XK}:iO vs H Q E↔mG vs H Q E:=by
 delta iO
 exact yH
section
variable  {P:wL}{w:xg}{K:wc}{mg:Str->Option wm}{base:Heap}{f T:Addr}{fd:xB}
theorem cR:aO ["pot", "weights", "rings", "taken", "kept", "left", "rows", "begin", "ring", "opens", "share", "place"] ["pot", "weights", "rings", "taken", "kept"] (aB nJ):=⟨rfl,rfl,rfl,by decide +kernel,rfl,by decide +kernel,by decide +kernel⟩
theorem f9:(["place", "kept"]:List Str).Nodup:=by decide +kernel
theorem fL:(["place", "taken"]:List Str).Nodup:=by decide +kernel
theorem gf:(["place", "left"]:List Str).Nodup:=by decide +kernel
theorem tY (F:Fun K "_law_rows" "_law_rows" nJ f fd)(B:Blt mg)(cLTake:Cal P w K mg base 1 "_law_take" ["pot", "many"] cC):bF P w K mg base CX0 2 f fd ["pot", "weights", "rings", "taken", "kept"] iO:=by
 refine F.ok cR (λvs H Q E h =>?_) (λcdv A outer s H vs Q E hr h =>?_)
 ·obtain ⟨_,_,_,_,_,_,_,_,_,_,rfl,_⟩:=cG.mp h
  rfl
 obtain ⟨p,wa,rl,t,k,m,ws,T,Kp,us,rfl,hp,hw,lw,m4,er,tu,pu,lu,et,tp,ek,kp,q⟩:=cG.mp h
 refine ⟨_,(@ah _ _ _ _ _ (@aH _ _ 5 _ _ _ _ cR.nd rfl (Or.inr rfl) (bb cK rfl B.b_list iE (@aa _ _ _ _ _ (pv 1) af rfl)) rfl (by first | exact .inl rfl | exact .inr rfl | assumption))
  (@ah _ _ _ _ _ (@aH _ _ 6 _ _ _ _ cR.nd rfl (Or.inl rfl) (@aI _ _ _ _ af) rfl (by first | exact .inl rfl | exact .inr rfl | assumption))
  (@ah _ _ _ _ _ (@aH _ _ 7 _ _ _ _ cR.nd rfl (Or.inl rfl) (aq cLTake hr (by decide) rfl (@aa _ _ _ _ _ (pv 0) (@aa _ _ _ _ _ (@aE _ _ _ _ _ _ _ _ bh (ao aP rfl B.b_len bS (@aa _ _ _ _ _ (pv 2) af rfl)) ag) af rfl) rfl)) rfl (by first | exact .inl rfl | exact .inr rfl | assumption))
  (@ah _ _ _ _ _ (@cv _ _ _ _ _ _ _ _ xN rfl (@cI _ _ _ _ (@aE _ _ _ _ _ _ _ _ bY (bB cJ (pv 2) (bV (pv 7)) bU) (bB cJ (pv 2) bU (bV (pv 7))))) (aD (i:=8) cR.nd rfl (Or.inl rfl))
   (@ah _ _ _ _ _ (cA (i:=9) ["place", "kept"] [none,some 4] rfl cR.nd rfl rfl (@cW _ _ _ _ (pv 8)) rfl (λ_ _ _ _ _=>(aD (i:=0) f9 rfl (Or.inl rfl))) (λ_ _ _ _ _=>(iX (aj (fA (K:=K)) (pv 0) (pv 1) rfl))) (λ_ _ _ _ _=>(pv 0)))
   (@ai _ _ _ (@aN _ _ _ _ _ _ _ _ (PW.pt (cz (aj (nC hr) (pv 9) (@aI _ _ _ _ af) (ax _)) (bW (fP (cf (ao (gz rfl) rfl B.b_any kZ (@aa _ _ _ _ _ (bD ["place", "taken"] [none,some 3] rfl (@cW _ _ _ _ (pv 8)) rfl (λ_ _ _ _ _=>(aD (i:=0) fL rfl (Or.inl rfl))) (λ_ _ _ _ _=>bQ) (λ_ _ _ _ _=>(bT (eZ (K:=K)) (pv 0) (pv 1) rfl))) af rfl))))))) (@ah _ _ _ _ _ (@aH _ _ 10 _ _ _ _ cR.nd rfl (Or.inl rfl) (ao (qa rfl) rfl B.b_min dZ (@aa _ _ _ _ _ (bD ["place", "left"] [none,some 5] rfl (@cI _ _ _ _ (pv 9)) rfl (λ_ _ _ _ _=>(aD (i:=0) gf rfl (Or.inl rfl))) (λ_ _ _ _ _=>bQ) (λ_ _ _ _ _=>(@ay _ _ _ _ _ _ _ (lK (K:=K)) (pv 1) (pv 0) (λ_ _=>rfl)))) af rfl)) rfl (by first | exact .inl rfl | exact .inr rfl | assumption))
    (@ai _ _ _ (@aN _ _ _ _ _ _ _ _ (PW.pt (cz (aj iS (pv 10) ag (ax _)) (bW (aj eF (ao aP rfl B.b_len bS (@aa _ _ _ _ _ (pv 6) af rfl)) ag (ax _))))) (@ah _ _ _ _ _ (@aH _ _ 10 _ _ _ _ cR.nd rfl (Or.inl rfl) (@aE _ _ _ _ _ _ _ _ cY (pv 10) (@aE _ _ _ _ _ _ _ _ dN (aq cLTake hr (by decide) rfl (@aa _ _ _ _ _ (pv 0) (@aa _ _ _ _ _ ag af rfl) rfl)) (pv 10))) rfl (by first | exact .inl rfl | exact .inr rfl | assumption))
     (@ah _ _ _ _ _ (iA (oj zw zg zh fz (pv 6) (@aa _ _ _ _ _ (@aQ _ _ _ _ _ (@aa _ _ _ _ _ (pv 8) (@aa _ _ _ _ _ (pv 10) af rfl) rfl)) af rfl)))
     (@ai _ _ _ (@cv _ _ _ _ _ _ _ _ xN rfl (@cI _ _ _ _ (pv 9)) (aD (i:=11) cR.nd rfl (Or.inl rfl))
      (@ai _ _ _ (@iQ _ _ _ _ _ _ (@aE _ _ _ _ _ _ _ _ cY (@ay _ _ _ _ _ _ _ bC (pv 5) (pv 11) (λ_ _=>rfl)) (pv 10)) (mN (pv 5) (pv 11) set_list) rfl rfl rfl)) (λ_=>rfl))))) az))) az))) (λ_=>rfl))
  (@ai _ _ _ (@au _ _ _ _ (pv 6))))))),?_⟩
 refine ⟨_,rfl,wa,_,rfl,.inl (SqL.of hw),λlf hlf =>?_⟩
 have nlf:=bq hp hlf
 have g1:=ab hlf (.lst (ws.map V.int))
 have b1:=(Bu.refl hp).same g1
 have elf:upd H lf (.lst (ws.map V.int)) lf=some (.lst (ws.map V.int)):=ae
 generalize upd H lf (.lst (ws.map V.int))=H1 at g1 b1 elf
 refine ⟨(by show 0<=wo;decide),λrw hrw =>?_⟩
 have nrw:=bq b1.pot hrw
 have nlr:rw≠lf:=λz=>by rw[z,elf] at hrw;cases hrw
 have hrw0:=sd b1 hrw nrw
 have g2:=ab hrw (.lst [])
 have b2:=b1.same g2
 have elf2:=g2 _ _ elf
 have erw2:upd H1 rw (.lst []) rw=some (.lst []):=ae
 generalize upd H1 rw (.lst [])=H2 at g2 b2 elf2 erw2
 have g12:=g1.trans g2
 have lum:(us.map λu=>V.ref u.1).length=us.length:=wd _
 refine ⟨_,rfl,_,rfl,rl,_,rfl,.inl (SqL.of (g12 _ _ er)),_,_,rfl,rfl,aA.mpr ⟨p,(us.length:Int)+1,by rw[lum];rfl,b2.pot,aG (by lia) (by lia),λd H3 d0 d1 b3 =>?_⟩⟩
 have b23:=b2.trans b3
 have nrl:rl≠p:=λz=>by
  obtain ⟨xs,lx,e⟩:=hp
  rw[z,e] at er
  match xs,lx,us,er with
  | [x],_,[u],er=>cases er
 have er3:=b3.st _ _ nrl (g12 _ _ er)
 obtain ⟨A1,eA,lA,mA⟩:=hX (λu:Addr×List Int=>V.ref u.1) us (some d) none
 obtain ⟨A2,eB,lB,mB⟩:=hX (λu:Addr×List Int=>V.ref u.1) us none (some d)
 refine ⟨_,rfl,_,rfl,_,rfl,rl,_,rfl,SqL.of er3,λc1 hc1 =>?_⟩
 have g4:=ab hc1 (.lst (bM (us.map λu=>V.ref u.1) (some d) none))
 have ec1:upd H3 c1 (.lst (bM (us.map λu=>V.ref u.1) (some d) none)) c1=some (.lst (A1.map λu=>V.ref u.1)):=by rw[ae,eA]
 generalize upd H3 c1 (.lst (bM (us.map λu=>V.ref u.1) (some d) none))=H4 at g4 ec1
 refine ⟨_,rfl,_,rfl,_,rfl,rl,_,rfl,SqL.of (g4 _ _ er3),λc2 hc2 =>?_⟩
 have g5:=g4.trans (ab hc2 (.lst (bM (us.map λu=>V.ref u.1) none (some d))))
 have ec1':=(ab hc2 (.lst (bM (us.map λu=>V.ref u.1) none (some d)))) _ _ ec1
 have ec2:upd H4 c2 (.lst (bM (us.map λu=>V.ref u.1) none (some d))) c2=some (.lst (A2.map λu=>V.ref u.1)):=by rw[ae,eB]
 generalize upd H4 c2 (.lst (bM (us.map λu=>V.ref u.1) none (some d)))=H5 at g5 ec1' ec2
 refine ⟨c1,c2,_,_,rfl,rfl,SqL.of ec1',SqL.of ec2,by rw[wd,wd];exact xx (Be lA lB) (xx (by lia:us.length+us.length<=8000) (by decide)),λc3 hc3 =>?_⟩
 have g6:=g5.trans (ab hc3 (.lst ((A1.map λu=>V.ref u.1)++A2.map λu=>V.ref u.1)))
 have ec3:upd H5 c3 (.lst ((A1.map λu=>V.ref u.1)++A2.map λu=>V.ref u.1)) c3=some (.lst ((A1++A2).map λu=>V.ref u.1)):=by rw[ae,wB]
 have b6:=b23.same g6
 have hc30:c3≠p:=bq (b23.same g5).pot hc3
 have elf6:=g6 _ _ (b3.st _ _ nlf elf2)
 have erw6:=g6 _ _ (b3.st _ _ nrw erw2)
 have n3l:c3≠lf:=λz=>by rw[z,g5 _ _ (b3.st _ _ nlf elf2)] at hc3;cases hc3
 have n3r:c3≠rw:=λz=>by rw[z,g5 _ _ (b3.st _ _ nrw erw2)] at hc3;cases hc3
 generalize upd H5 c3 (.lst ((A1.map λu=>V.ref u.1)++A2.map λu=>V.ref u.1))=H6 at g6 ec3 b6 elf6 erw6
 have mem:∀u∈A1++A2,u∈us:=λu hu=>(wC.mp hu).elim (mA u) (mB u)
 let W0:Nat->St->Hp->Prop:=λi σ H'=>((∃c8 c9 c10 c11,σ=[some (.ref p),some (.ref wa),some (.ref rl),some (.ref t),some (.ref k),some (.ref lf),some (.ref rw),some (.int d),c8,c9,c10,c11])/\Bu 1 p H H'/\(∃L:List Int,H' lf=some (.lst (L.map V.int))/\L.length=m)/\∃rus:List RU,H' rw=some (.lst (rus.map λu =>.ref u.1))/\(∀u∈rus,di H' u)/\rus.length<=5)/\H' c3=some (.lst ((A1++A2).map λu=>V.ref u.1))
 refine ⟨c3,rfl,⟨_,SqL.of ec3⟩,dE (xs:=(A1++A2).map λu =>.ref u.1) W0 ⟨⟨⟨_,_,_,_,rfl⟩,b6,⟨ws,elf6,lw⟩,[],erw6,(λu h=>nomatch h),by decide⟩,ec3⟩ (λi σ H' _ h=>SqL.of h.2) ?_ ?_⟩
 ·rintro i x σ H7 hx ⟨⟨⟨c8,c9,c10,c11,rfl⟩,b7,⟨L,eL,lL⟩,rus,erw7,ru7,lr7⟩,ec7⟩
  obtain ⟨u,eu,rfl⟩:=mw hx
  have um:=mem u (wR eu)
  obtain ⟨zn,nd,rng⟩:=pu u um
  have lz:=(pu u um).len
  have eu7:=b7.tup hp (tu u um)
  refine ⟨_,rfl,u.1,rfl,⟨_,SqT.of eu7⟩,v9 (λv => !decide (v∈Kp)) eu7 (by lia) (λv hv R hR =>?_) (λv hv R hR=>⟨_,rfl,hR⟩) λop hop =>?_⟩
  ·refine ⟨_,rfl,_,rfl,k,_,rfl,.inl (SqL.of (b7.st _ _ kp ek)),rfl,aW Kp,_,rfl,?_⟩
   show R (!inV (.int v) (Kp.map V.int)) _
   rw[eJ]
   exact hR
  have g8:=ab hop (.lst ((u.2.filter λv => !decide (v∈Kp)).map V.int))
  have b8:=b7.same g8
  have eop:upd H7 op (.lst ((u.2.filter λv => !decide (v∈Kp)).map V.int)) op=some (.lst ((u.2.filter λv => !decide (v∈Kp)).map V.int)):=ae
  have nop:=bq b7.pot hop
  have nol:op≠lf:=λz=>by rw[z,eL] at hop;cases hop
  have nor:op≠rw:=λz=>by rw[z,erw7] at hop;cases hop
  generalize upd H7 op (.lst ((u.2.filter λv => !decide (v∈Kp)).map V.int))=H8 at g8 b8 eop
  have ol:∀v∈u.2.filter (λv => !decide (v∈Kp)),0<=v/\v<m:=λv hv=>rng v (BL.mp hv).1
  have oll:(u.2.filter λv => !decide (v∈Kp)).length<=u.2.length:=List.length_filter_le _ _
  generalize u.2.filter (λv => !decide (v∈Kp))=O at eop ol oll
  refine ⟨_,rfl,(by show 0<=wo;decide),λo1 ho1 =>?_⟩
  have g9:=g8.trans (ab ho1 (.lst []))
  have b9:=b8.same (ab ho1 (.lst []))
  have eop9:=(ab ho1 (.lst [])) _ _ eop
  have e19:upd H8 o1 (.lst []) o1=some (.lst []):=ae
  generalize upd H8 o1 (.lst [])=H9 at g9 b9 eop9 e19
  have back:∀{H':Hp} {c8 c9 c10 c11:Option V},aK H7 H'->((∃c8' c9' c10' c11',([some (.ref p),some (.ref wa),some (.ref rl),some (.ref t),some (.ref k),some (.ref lf),some (.ref rw),some (.int d),c8,c9,c10,c11]:St)=[some (.ref p),some (.ref wa),some (.ref rl),some (.ref t),some (.ref k),some (.ref lf),some (.ref rw),some (.int d),c8',c9',c10',c11'])/\Bu 1 p H H'/\(∃L:List Int,H' lf=some (.lst (L.map V.int))/\L.length=m)/\∃rus:List RU,H' rw=some (.lst (rus.map λu =>.ref u.1))/\(∀u∈rus,di H' u)/\rus.length<=5)/\H' c3=some (.lst ((A1++A2).map λu=>V.ref u.1)):=λ{H' c8 c9 c10 c11} s'=>⟨⟨⟨_,_,_,_,rfl⟩,b7.same s',⟨L,s' _ _ eL,lL⟩,rus,s' _ _ erw7,λu hu=>(ru7 u hu).same s',lr7⟩,s' _ _ ec7⟩
  refine ⟨op,o1,_,rfl,rfl,eop9,e19,λz=>⟨_,rfl,aT (aT (back g9))⟩,λz=>⟨_,rfl,aS ?_⟩⟩
  have eu9:=g9 _ _ eu7
  refine ⟨_,rfl,u.1,rfl,⟨_,SqT.of eu9⟩,gD (λv=>decide (v∈T)) V.bl eu9 (by lia) (λv hv R hR =>?_) λl3 hl3 =>?_⟩
  ·refine ⟨_,rfl,_,rfl,t,_,rfl,.inl (SqL.of (g9 _ _ (b7.st _ _ tp et))),rfl,aW T,?_⟩
   show R (V.bl (inV (.int v) (T.map V.int))) _
   rw[eJ]
   exact hR
  have g10:=g9.trans (ab hl3 (.lst ((u.2.map λv=>decide (v∈T)).map V.bl)))
  have eop10:=(ab hl3 (.lst ((u.2.map λv=>decide (v∈T)).map V.bl))) _ _ eop9
  refine ⟨l3,_,rfl,SqL.of ae,_,rfl,?_⟩
  generalize upd H9 l3 (.lst ((u.2.map λv=>decide (v∈T)).map V.bl))=H10 at g10 eop10
  cases (u.2.map λv=>decide (v∈T)).any id with
  | true=>exact aT (back g10)
  | false =>
   refine aS ⟨_,rfl,op,rfl,⟨_,SqL.of eop10⟩,ui (λv=>L.getD v.toNat 0) V.int eop10 (by lia) (λv hv R hR =>?_) λl4 hl4 =>?_⟩
   ·obtain ⟨v0,v1⟩:=ol v hv
    have ha:=iz (ws:=L) (n:=v.toNat) (by lia)
    rw[show ((v.toNat:Nat):Int)=v by lia] at ha
    exact ⟨_,rfl,_,rfl,lf,_,v,_,rfl,rfl,SqL.of (g10 _ _ eL),ha,hR⟩
   have On:O≠[]:=λh=>z (by rw[h];rfl)
   have g11:=g10.trans (ab hl4 (.lst ((O.map λv=>L.getD v.toNat 0).map V.int)))
   have eop11:=(ab hl4 (.lst ((O.map λv=>L.getD v.toNat 0).map V.int))) _ _ eop10
   refine ⟨l4,_,rfl,SqL.of ae,λh=>On (Ck.mp h),λM _ _ =>?_⟩
   generalize upd H10 l4 (.lst ((O.map λv=>L.getD v.toNat 0).map V.int))=H11 at g11 eop11
   refine ⟨_,rfl,_,_,rfl,rfl,_,rfl,bN (λz1 =>?_) λz1=>aT (back g11)⟩
   have M0:0<M:=of_decide_eq_true z1
   refine ⟨_,rfl,rw,_,rfl,.inl (SqL.of (g11 _ _ erw7)),_,_,rfl,rfl,_,rfl,bN (λz2 =>?_) λz2=>back g11⟩
   have l5:rus.length<5:=by have z2:=of_decide_eq_true z2;rw[wd] at z2;lia
   have b11:=b7.same g11
   refine ⟨_,rfl,_,rfl,aA.mpr ⟨p,4,rfl,b11.pot,aG (by decide) (by decide),λd2 H12 e0 e1 b12=>⟨_,rfl,_,_,rfl,rfl,M0,_,_,rfl,rfl,?_⟩⟩⟩
   have b712:=b11.trans b12
   have erw12:=b12.st _ _ nrw (g11 _ _ erw7)
   have eu12:=b12.tup b11.pot (g11 _ _ eu7)
   refine ⟨_,rfl,.inl ⟨rfl,_,SqL.of erw12⟩,_,rfl,_,rfl,(by show 2<=wo;decide),λo2 ho2 =>?_⟩
   have g13:=ab ho2 (.tup [.ref u.1,.int (M-d2%M)])
   have erw13:=g13 _ _ erw12
   have row:di (upd H12 o2 (.tup [.ref u.1,.int (M-d2%M)])) (o2,u.1,u.2,(M-d2%M)):=⟨ae,g13 _ _ eu12,by show u.2.length<=100;lia,zn⟩
   have n2r:o2≠rw:=λh=>by rw[h,erw12] at ho2;cases ho2
   have b13:=b712.same g13
   have eop13:=g13 _ _ (b12.st _ _ nop eop11)
   have eL13:=g13 _ _ (b12.st _ _ nlf (g11 _ _ eL))
   have ec13:=g13 _ _ (b12.st _ _ hc30 (g11 _ _ ec7))
   have ru13:∀v∈rus,di (upd H12 o2 (.tup [.ref u.1,.int (M-d2%M)])) v:=λv hv=>(((ru7 v hv).same g11).bu b12 b11.pot).same g13
   generalize upd H12 o2 (.tup [.ref u.1,.int (M-d2%M)])=H13 at g13 erw13 row b13 eop13 eL13 ec13 ru13
   refine ⟨rw,_,_,rfl,rfl,erw13,gZ (by rw[wd];lia),?_⟩
   have b14:=b13.dW hrw0 nrw (.lst (rus.map (λu=>V.ref u.1)++[.ref o2]))
   have erw14:upd H13 rw (.lst (rus.map (λu=>V.ref u.1)++[.ref o2])) rw=some (.lst ((rus++[(o2,u.1,u.2,(M-d2%M))]).map λu=>V.ref u.1)):=by rw[ae,wB];rfl
   have ru14:∀v∈rus++[(o2,u.1,u.2,(M-d2%M))],di (upd H13 rw (.lst (rus.map (λu=>V.ref u.1)++[.ref o2]))) v:=λv hv=>by
    rcases wC.mp hv with h | h
    ·exact (ru13 v h).put erw13
    ·rw[wx.mp h];exact row.put erw13
   have eop14:upd H13 rw (.lst (rus.map (λu=>V.ref u.1)++[.ref o2])) op=some (.lst (O.map V.int)):=by rw[aF nor];exact eop13
   have eL14:upd H13 rw (.lst (rus.map (λu=>V.ref u.1)++[.ref o2])) lf=some (.lst (L.map V.int)):=by rw[aF nlr.symm];exact eL13
   have ec14:upd H13 rw (.lst (rus.map (λu=>V.ref u.1)++[.ref o2])) c3=some (.lst ((A1++A2).map λu=>V.ref u.1)):=by rw[aF n3r];exact ec13
   generalize upd H13 rw (.lst (rus.map (λu=>V.ref u.1)++[.ref o2]))=H14 at b14 erw14 ru14 eop14 eL14 ec14
   have lr14:(rus++[(o2,u.1,u.2,(M-d2%M))]).length<=5:=by rw[wj];show _+1<=_;lia
   generalize rus++[(o2,u.1,u.2,(M-d2%M))]=rus' at erw14 ru14 lr14
   let W1:Nat->St->Hp->Prop:=λj σ H'=>(((∃c8 c9 c11,σ=[some (.ref p),some (.ref wa),some (.ref rl),some (.ref t),some (.ref k),some (.ref lf),some (.ref rw),some (.int d),c8,c9,some (.int (M-d2%M)),c11])/\Bu 1 p H H'/\(∃L:List Int,H' lf=some (.lst (L.map V.int))/\L.length=m)/\∃rus:List RU,H' rw=some (.lst (rus.map λu =>.ref u.1))/\(∀u∈rus,di H' u)/\rus.length<=5)/\H' c3=some (.lst ((A1++A2).map λu=>V.ref u.1)))/\H' op=some (.lst (O.map V.int))
   refine ⟨_,rfl,op,rfl,⟨_,SqL.of eop14⟩,dE (xs:=O.map V.int) W1 ⟨⟨⟨⟨_,_,_,rfl⟩,b14,⟨L,eL14,lL⟩,rus',erw14,ru14,lr14⟩,ec14⟩,eop14⟩ (λj σ H' _ h=>SqL.of h.2) ?_ ?_⟩
   ·rintro j x σ H15 hx ⟨⟨⟨⟨c9,c11,c13,rfl⟩,b15,⟨L2,eL2,lL2⟩,rus2,erw15,ru15,lr15⟩,ec15⟩,eop15⟩
    obtain ⟨v,ev,rfl⟩:=iu hx
    obtain ⟨v0,v1⟩:=ol v (wR ev)
    obtain ⟨n,rfl⟩:∃n:Nat,v=n:=⟨v.toNat,by lia⟩
    have hlf0:H lf=none:=hlf
    refine ⟨_,rfl,_,rfl,lf,_,(n:Int),_,rfl,rfl,SqL.of eL2,iz (by lia),_,rfl,_,_,rfl,rfl,_,rfl,_,rfl,lf,_,(n:Int),n,rfl,rfl,eL2,(by unfold ixN;rw[if_pos (by lia),if_pos (by rw[wd];lia)];rfl),⟨⟨⟨⟨_,_,_,rfl⟩,b15.dW hlf0 nlf _,⟨L2.set n (L2.getD n 0-(M-d2%M)),by rw[ae,C4],by rw[AG];exact lL2⟩,rus2,by rw[aF nlr];exact erw15,λw hw=>(ru15 w hw).put eL2,lr15⟩,by rw[aF n3l];exact ec15⟩,by rw[aF nol];exact eop15⟩⟩
   ·rintro σ H15 ⟨⟨⟨⟨c9,c11,c13,rfl⟩,b15,L15,rus2,erw15,ru15,lr15⟩,ec15⟩,eop15⟩
    exact ⟨⟨⟨_,_,_,_,rfl⟩,b15,L15,rus2,erw15,ru15,lr15⟩,ec15⟩
 ·rintro σ H7 ⟨⟨⟨c8,c9,c10,c11,rfl⟩,b7,⟨L,eL,lL⟩,rus,erw7,ru7,lr7⟩,ec7⟩
  refine ⟨_,rfl,q rw _ H7 b7 ⟨rus,erw7,λu hu=>⟨(ru7 u hu).1,(ru7 u hu).2.1,xx (ru7 u hu).2.2.1 (by decide)⟩,rfl,by lia⟩ (by rw[wd];exact lr7) λr hr =>?_⟩
  obtain ⟨u,hu,rfl⟩:=yv.mp hr
  exact ⟨(ru7 u hu).2.2.2,(ru7 u hu).2.2.1⟩
end
open PySem L2
def qp:Tr->Prop
 | .ring Z=>Z≠[]/\Z.length<=100
 | .rows rs=>rs.length<=50/\∀r∈rs,r.1≠[]/\r.1.length<=100
 | .part _ a b=>qp a/\qp b
theorem jz {H:Hp}{p l:Addr}(hp:Pt 1 H p){α:Type}{f:α -> Addr}{us:List α}(e:H l=some (.lst (us.map λu=>V.ref (f u)))):l≠p:=λz=>by
 obtain ⟨xs,lx,ep⟩:=hp
 rw[z,ep] at e
 match xs,lx,us,e with
 | [x],_,[u],e=>cases e
theorem Rows.bu {c:Bool}{H H':Hp}{p l:Addr}{rs:List (List Int×Int)}(h:Rows c H l rs)(b:Bu 1 p H H')(hp:Pt 1 H p):Rows c H' l rs:=by
 obtain ⟨us,h1,h2,h3,h4⟩:=h
 refine ⟨us,?_,λu hu=>⟨b.tup hp (h2 u hu).1,b.tup hp (h2 u hu).2.1,(h2 u hu).2.2⟩,h3,h4⟩
 cases c with
 | true=>exact b.st _ _ (jz hp h1) h1
 | false=>exact b.tup hp h1
theorem bK.bu {c:Bool}{H H':Hp}{p:Addr}(b:Bu 1 p H H')(hp:Pt 1 H p):∀{t:Tr} {n:Nat} {a:Addr},bK c H n a t->bK c H' n a t
 | .ring Z,n,a,h=>by
  obtain ⟨q,h1,h2,h3⟩:=h
  exact ⟨q,b.tup hp h1,b.tup hp h2,h3⟩
 | .rows rs,n,a,h=>by
  obtain ⟨q,h1,h2⟩:=h
  exact ⟨q,b.tup hp h1,h2.bu b hp⟩
 | .part v x y,n,a,h=>by
  obtain ⟨k,q,q',e,h1,h2,h3⟩:=h
  exact ⟨k,q,q',e,b.tup hp h1,bK.bu b hp h2,bK.bu b hp h3⟩
theorem Wb.bu {H H':Hp}{p r:Addr}{m:Int}{ts:List (Addr×List Int)}(W:Wb H r m ts)(b:Bu 1 p H H')(hp:Pt 1 H p):Wb H' r m ts:=W.tp λc u h=>b.tup hp h
@[irreducible] def gg:Nat->Sp
 | 0=>λ_ _ _ _=>False
 | n+1=>λvs H Q _=>∃(p r wa rl t k:Addr) (m rm:Nat) (ts:List (Addr×List Int)) (ws T Kp:List Int) (us:List (Addr×List Int)),vs=[.ref p,.ref r,.ref wa,.ref rl,.ref t,.ref k,.int rm]/\Pt 1 H p/\Wb H r m ts/\m<=40/\H wa=some (.lst (ws.map V.int))/\wa≠p/\ws.length=m/\H rl=some (.lst (us.map λu =>.ref u.1))/\Tus H us/\(∀u∈us,Pth m u.2)/\us.length<=4000/\H t=some (.lst (T.map V.int))/\t≠p/\T.length+n<=200/\H k=some (.lst (Kp.map V.int))/\k≠p/\Kp.length+n<=200/\rm<=n/\∀(a:Addr) (tr:Tr) (H':Hp),Bu 1 p H H'->bK true H' rm a tr->qp tr->Q (.ref a) H'
theorem cn {n:Nat}{vs:List V}{H:Hp}{Q:VK}{E:XK}:gg (n+1) vs H Q E↔∃(p r wa rl t k:Addr) (m rm:Nat) (ts:List (Addr×List Int)) (ws T Kp:List Int) (us:List (Addr×List Int)),vs=[.ref p,.ref r,.ref wa,.ref rl,.ref t,.ref k,.int rm]/\Pt 1 H p/\Wb H r m ts/\m<=40/\H wa=some (.lst (ws.map V.int))/\wa≠p/\ws.length=m/\H rl=some (.lst (us.map λu =>.ref u.1))/\Tus H us/\(∀u∈us,Pth m u.2)/\us.length<=4000/\H t=some (.lst (T.map V.int))/\t≠p/\T.length+n<=200/\H k=some (.lst (Kp.map V.int))/\k≠p/\Kp.length+n<=200/\rm<=n/\∀(a:Addr) (tr:Tr) (H':Hp),Bu 1 p H H'->bK true H' rm a tr->qp tr->Q (.ref a) H':=by
 unfold gg
 exact yH
theorem qq {vs:List V}{H:Hp}{Q:VK}{E:XK}:¬ gg 0 vs H Q E:=by
 unfold gg
 exact id
section
variable  {P:wL}{w:xg}{K:wc}{mg:Str->Option wm}{base:Heap}{f T:Addr}{fd:xB}
theorem gG:aO ["pot", "web", "weights", "rings", "taken", "kept", "room", "shut", "opens", "place", "first"] ["pot", "web", "weights", "rings", "taken", "kept", "room"] (aB nK):=⟨rfl,rfl,rfl,by decide +kernel,rfl,by decide +kernel,by decide +kernel⟩
theorem gH:(["ring", "kept"]:List Str).Nodup:=by decide +kernel
theorem gh:(["place", "kept"]:List Str).Nodup:=by decide +kernel
theorem dB:(["place", "taken", "kept"]:List Str).Nodup:=by decide +kernel
theorem tZ (F:Fun K "_law_good" "_law_good" nK f fd)(B:Blt mg)(n:Nat)(cLGood:Cal P w K mg base (2+n) "_law_good" ["pot", "web", "weights", "rings", "taken", "kept", "room"] (gg n))(cLTake:Cal P w K mg base 1 "_law_take" ["pot", "many"] cC)(cLRows:Cal P w K mg base 2 "_law_rows" ["pot", "weights", "rings", "taken", "kept"] iO):bF P w K mg base CX0 (2+n+1) f fd ["pot", "web", "weights", "rings", "taken", "kept", "room"] (gg (n+1)):=by
 refine F.ok gG (λvs H Q E h =>?_) (λcdv A outer s H vs Q E hr h =>?_)
 ·obtain ⟨_,_,_,_,_,_,_,_,_,_,_,_,_,rfl,_⟩:=cn.mp h
  rfl
 obtain ⟨p,r,wa,rl,t,k,m,rm,ts,ws,T,Kp,us,rfl,hp,W,m4,hw,wap,lw,er,tu,pu,lu,et,tp,lt,ek,kp,lk,rn,q⟩:=cn.mp h
 refine ⟨_,(@ah _ _ _ _ _ (cA (i:=7) ["ring", "kept"] [none,some 5] rfl gG.nd rfl rfl (@cI _ _ _ _ (pv 3)) rfl (λ_ _ _ _ _=>(aD (i:=0) gH rfl (Or.inl rfl))) (λ_ _ _ _ _=>(iX (cf (ao (p8 (K:=K) rfl) rfl B.b_all jq (@aa _ _ _ _ _ (bD ["place", "kept"] [none,some 1] rfl (tI (K:=K) (pv 0)) rfl (λ_ _ _ _ _=>(aD (i:=0) gh rfl (Or.inl rfl))) (λ_ _ _ _ _=>bQ) (λ_ _ _ _ _=>(bT (eZ (K:=K)) (pv 0) (pv 1) rfl))) af rfl))))) (λ_ _ _ _ _=>(pv 0)))
  (@ah _ _ _ _ _ (cA (i:=8) ["place", "taken", "kept"] [none,some 4,some 5] rfl gG.nd rfl rfl (bz rfl B.b_range (@aa _ _ _ _ _ (@ay _ _ _ _ _ _ _ av (pv 1) ag (λ_ _=>rfl)) af rfl)) rfl (λ_ _ _ _ _=>(aD (i:=0) dB rfl (Or.inl rfl))) (λ_ _ _ _ _=>(iX (PW.pt (cz (aj (fA (K:=K)) (pv 0) (pv 1) rfl) (bW (aj (fA (K:=K)) (pv 0) (pv 2) rfl)))))) (λ_ _ _ _ _=>(pv 0)))
  (@ah _ _ _ _ _ (@aN _ _ _ _ _ _ _ _ (PW.pt (cz (aj (nC hr) (pv 7) (@aI _ _ _ _ af) (ax _)) (bW (PW.pt (cg (aj bo (pv 6) ag (ax _)) (cg (aj (cP hr) (pv 8) (@aI _ _ _ _ af) (ax _)) (cu (aj iS (aq cLTake hr (by lia) rfl (@aa _ _ _ _ _ (pv 0) (@aa _ _ _ _ _ ag af rfl) rfl)) ag (ax _))))))))) (@ai _ _ _ (@au _ _ _ _ (@aQ _ _ _ _ _ (@aa _ _ _ _ _ aV (@aa _ _ _ _ _ (@ay _ _ _ _ _ _ _ bC (pv 7) (aq cLTake hr (by lia) rfl (@aa _ _ _ _ _ (pv 0) (@aa _ _ _ _ _ (ao aP rfl B.b_len bS (@aa _ _ _ _ _ (pv 7) af rfl)) af rfl) rfl)) (λ_ _=>rfl)) af rfl) rfl)))) az)
  (@ah _ _ _ _ _ (@aN _ _ _ _ _ _ _ _ (PW.pt (cg (aj bo (pv 6) ag (ax _)) (cg (aj (cP hr) (pv 8) (@aI _ _ _ _ af) (ax _)) (cu (PW.pt (cz (aj (cP hr) (pv 7) (@aI _ _ _ _ af) (ax _)) (bW (aj bo (aq cLTake hr (by lia) rfl (@aa _ _ _ _ _ (pv 0) (@aa _ _ _ _ _ ag af rfl) rfl)) ag (ax _))))))))) (@ai _ _ _ (@au _ _ _ _ (@aQ _ _ _ _ _ (@aa _ _ _ _ _ aV (@aa _ _ _ _ _ (aq cLRows hr (by lia) rfl (@aa _ _ _ _ _ (pv 0) (@aa _ _ _ _ _ (pv 2) (@aa _ _ _ _ _ (pv 3) (@aa _ _ _ _ _ (pv 4) (@aa _ _ _ _ _ (pv 5) af rfl) rfl) rfl) rfl) rfl)) af rfl) rfl)))) az)
  (@ah _ _ _ _ _ (@aH _ _ 9 _ _ _ _ gG.nd rfl (Or.inl rfl) (@ay _ _ _ _ _ _ _ bC (pv 8) (aq cLTake hr (by lia) rfl (@aa _ _ _ _ _ (pv 0) (@aa _ _ _ _ _ (ao aP rfl B.b_len bS (@aa _ _ _ _ _ (pv 8) af rfl)) af rfl) rfl)) (λ_ _=>rfl)) rfl (by first | exact .inl rfl | exact .inr rfl | assumption))
  (@ah _ _ _ _ _ (@aH _ _ 10 _ _ _ _ gG.nd rfl (Or.inl rfl) (aq cLGood hr (wq _) rfl (@aa _ _ _ _ _ (pv 0) (@aa _ _ _ _ _ (pv 1) (@aa _ _ _ _ _ (pv 2) (@aa _ _ _ _ _ (pv 3) (@aa _ _ _ _ _ (@aE _ _ _ _ _ _ _ _ bY (pv 4) (@aI _ _ _ _ (@aa _ _ _ _ _ (pv 9) af rfl))) (@aa _ _ _ _ _ (pv 5) (@aa _ _ _ _ _ (@aE _ _ _ _ _ _ _ _ cY (pv 6) ag) af rfl) rfl) rfl) rfl) rfl) rfl) rfl)) rfl (by first | exact .inl rfl | exact .inr rfl | assumption))
  (@ai _ _ _ (@au _ _ _ _ (@aQ _ _ _ _ _ (@aa _ _ _ _ _ aV (@aa _ _ _ _ _ (pv 9) (@aa _ _ _ _ _ (pv 10) (@aa _ _ _ _ _ (aq cLGood hr (wq _) rfl (@aa _ _ _ _ _ (pv 0) (@aa _ _ _ _ _ (pv 1) (@aa _ _ _ _ _ (pv 2) (@aa _ _ _ _ _ (pv 3) (@aa _ _ _ _ _ (pv 4) (@aa _ _ _ _ _ (@aE _ _ _ _ _ _ _ _ bY (pv 5) (@aI _ _ _ _ (@aa _ _ _ _ _ (pv 9) af rfl))) (@aa _ _ _ _ _ (@aE _ _ _ _ _ _ _ _ cY (pv 6) ag) af rfl) rfl) rfl) rfl) rfl) rfl) rfl)) af rfl) rfl) rfl) rfl)))))))))),?_⟩
 obtain ⟨tt,e1,e2⟩:=W.at'
 have nrl:=jz hp er
 have b0:=Bu.refl hp
 let W0:Nat->List V->Hp->Prop:=λi ys H'=>aK H H'/\∃A:List (Addr×List Int),ys=A.map (λu =>.ref u.1)/\(∀u∈A,u∈us)/\A.length<=i
 refine ⟨_,rfl,rl,rfl,⟨_,SqL.of er⟩,fR (xs:=us.map λu =>.ref u.1) W0 ⟨aK.refl _,[],rfl,(λu h=>nomatch h),wq _⟩ (by rw[wd];exact aU (by lia)) (λi ys H' _ h=>SqL.of (h.1 _ _ er)) ?_ ?_⟩
 ·rintro i x ys H1 hx _ ⟨s1,A,rfl,mA,lA⟩ R1 R0 r1 r0
  obtain ⟨u,eu,rfl⟩:=mw hx
  have um:=wR eu
  have lz:=(pu u um).len
  have eu1:=s1 _ _ (tu u um)
  refine ⟨_,rfl,u.1,rfl,⟨_,SqT.of eu1⟩,gD (λv=>decide (v∈Kp)) V.bl eu1 (by lia) (λv hv R hR =>?_) λl2 hl2 =>?_⟩
  ·refine ⟨_,rfl,_,rfl,k,_,rfl,.inl (SqL.of (s1 _ _ ek)),rfl,aW Kp,?_⟩
   show R (V.bl (inV (.int v) (Kp.map V.int))) _
   rw[eJ]
   exact hR
  have s2:=s1.trans (ab hl2 (.lst ((u.2.map λv=>decide (v∈Kp)).map V.bl)))
  refine ⟨l2,_,rfl,SqL.of ae,_,rfl,bN (λz =>?_) λz=>r0 _ ⟨s2,A,rfl,mA,by lia⟩⟩
  refine ⟨_,rfl,r1 _ _ ⟨s2,A++[u],by rw[wB];rfl,λw hw =>?_,by rw[wj];show _+1<=_;lia⟩⟩
  rcases wC.mp hw with h | h
  ·exact mA w h
  ·rw[wx.mp h];exact um
 rintro ys H1 _ ⟨s1,A,rfl,mA,lA⟩ sa hsa
 rw[wd] at lA
 have g2:=s1.trans (ab hsa (.lst (A.map λu=>V.ref u.1)))
 have es:upd H1 sa (.lst (A.map λu=>V.ref u.1)) sa=some (.lst (A.map λu=>V.ref u.1)):=ae
 generalize upd H1 sa (.lst (A.map λu=>V.ref u.1))=H2 at g2 es
 refine ⟨_,rfl,r,_,0,_,rfl,rfl,SqT.of (g2 _ _ e1),rfl,(m:Int),rfl,by lia,by lia,bI (λi ys H'=>H'=H2/\∃O:List Int,ys=O.map V.int/\O.length<=i) ⟨rfl,[],rfl,wq _⟩ (aU (by lia)) ?_ ?_⟩
 ·rintro i ys H3 hi _ ⟨rfl,O,rfl,lO⟩ R1 R0 r1 r0
  refine ⟨_,rfl,_,rfl,t,_,rfl,.inl (SqL.of (g2 _ _ et)),rfl,aW T,_,rfl,?_⟩
  refine bN (λz=>⟨_,rfl,_,rfl,k,_,rfl,.inl (SqL.of (g2 _ _ ek)),rfl,aW Kp,_,rfl,bN (λz'=>⟨_,rfl,r1 _ _ ⟨rfl,O++[0+(i:Int)],by rw[wB];rfl,by rw[wj];show _+1<=_;lia⟩⟩) λz'=>r0 _ ⟨rfl,O,rfl,by lia⟩⟩) λz=>aT (r0 _ ⟨rfl,O,rfl,by lia⟩)
 rintro ys H3 _ ⟨rfl,O,rfl,lO⟩ oa hoa
 have g4:=g2.trans (ab hoa (.lst (O.map V.int)))
 have es4:=(ab hoa (.lst (O.map V.int))) _ _ es
 have eo4:upd H3 oa (.lst (O.map V.int)) oa=some (.lst (O.map V.int)):=ae
 have b4:=b0.same g4
 have nsa:sa≠p:=bq (b0.same s1).pot hsa
 have noa:oa≠p:=bq (b0.same g2).pot hoa
 generalize upd H3 oa (.lst (O.map V.int))=H4 at g4 es4 eo4 b4
 have lOm:∀{z:Addr},(O.map V.int).length≠([]:List V).length->0<O.length:=λ{z} h=>by rw[wd] at h;exact CB h
 refine ⟨_,rfl,(by show 0<=wo;decide),λz1 hz1 =>?_⟩
 have b5:=b4.same (ab hz1 (.lst []))
 have es5:=(ab hz1 (.lst [])) _ _ es4
 have eo5:=(ab hz1 (.lst [])) _ _ eo4
 have ez5:upd H4 z1 (.lst []) z1=some (.lst []):=ae
 generalize upd H4 z1 (.lst [])=H5 at b5 es5 eo5 ez5
 refine ⟨sa,z1,_,rfl,rfl,es5,ez5,λhA =>?_,λhA =>?_⟩
 ·-- no shut ring
  refine ⟨_,rfl,aT (aT ?_)⟩
  refine ⟨_,rfl,rfl,_,rfl,bN (λz=>aS ?_) λz =>?_⟩
  exact ⟨_,rfl,_,rfl,_,rfl,_,rfl,_,rfl,cG.mpr ⟨p,wa,rl,t,k,m,ws,T,Kp,us,rfl,b5.pot,b5.st _ _ wap hw,lw,m4,b5.st _ _ nrl er,tu.bu b5 hp,pu,lu,b5.st _ _ tp et,tp,b5.st _ _ kp ek,kp,λl rs Hr br R lrs rne=>⟨(by show 2<=wo;decide),λo ho=>q o (.rows rs) _ ((b5.trans br).same (ab ho _)) ⟨l,ae,R.same (ab ho _)⟩ ⟨by lia,rne⟩⟩⟩⟩
  have rm0:rm≠0:=λh=>z (decide_eq_true (by rw[h];rfl))
  refine ⟨_,rfl,(by show 0<=wo;decide),λz2 hz2 =>?_⟩
  have b6:=b5.same (ab hz2 (.lst []))
  have es6:=(ab hz2 (.lst [])) _ _ es5
  have eo6:=(ab hz2 (.lst [])) _ _ eo5
  refine ⟨oa,z2,_,_,rfl,rfl,SqL.of eo6,SqL.of ae,?_⟩
  generalize upd H5 z2 (.lst [])=H6 at b6 es6 eo6
  by_cases On:O=[]
  ·refine .inr ⟨by rw[On];exact .nil,_,rfl,aS (aS ?_)⟩
   exact ⟨_,rfl,_,rfl,_,rfl,_,rfl,_,rfl,cG.mpr ⟨p,wa,rl,t,k,m,ws,T,Kp,us,rfl,b6.pot,b6.st _ _ wap hw,lw,m4,b6.st _ _ nrl er,tu.bu b6 hp,pu,lu,b6.st _ _ tp et,tp,b6.st _ _ kp ek,kp,λl rs Hr br R lrs rne=>⟨(by show 2<=wo;decide),λo ho=>q o (.rows rs) _ ((b6.trans br).same (ab ho _)) ⟨l,ae,R.same (ab ho _)⟩ ⟨by lia,rne⟩⟩⟩⟩
  have Ol:0<O.length:=xW.mpr On
  refine .inl ⟨by rw[wd];exact y7 Ol,_,rfl,aT ?_⟩
  refine ⟨_,rfl,(by show 0<=wo;decide),λz3 hz3 =>?_⟩
  have b7:=b6.same (ab hz3 (.lst []))
  have es7:=(ab hz3 (.lst [])) _ _ es6
  have eo7:=(ab hz3 (.lst [])) _ _ eo6
  refine ⟨sa,z3,_,_,rfl,rfl,SqL.of es7,SqL.of ae,.inr ⟨by rw[hA];exact .nil,_,rfl,aS ?_⟩⟩
  generalize upd H6 z3 (.lst [])=H7 at b7 es7 eo7
  refine ⟨_,rfl,aA.mpr ⟨p,4,rfl,b7.pot,aG (by decide) (by decide),λd4 H8 f0 f1 b8=>⟨rfl,_,rfl,bN (λz =>?_) λz =>?_⟩⟩⟩
  ·have b9:=b7.trans b8
   exact ⟨_,rfl,_,rfl,_,rfl,_,rfl,_,rfl,cG.mpr ⟨p,wa,rl,t,k,m,ws,T,Kp,us,rfl,b9.pot,b9.st _ _ wap hw,lw,m4,b9.st _ _ nrl er,tu.bu b9 hp,pu,lu,b9.st _ _ tp et,tp,b9.st _ _ kp ek,kp,λl rs Hr br R lrs rne=>⟨(by show 2<=wo;decide),λo ho=>q o (.rows rs) _ ((b9.trans br).same (ab ho _)) ⟨l,ae,R.same (ab ho _)⟩ ⟨by lia,rne⟩⟩⟩⟩
  ·have b9:=b7.trans b8
   have eo9:=b8.st _ _ noa eo7
   obtain ⟨n',rfl⟩:∃n',n=n'+1:=⟨n-1,by lia⟩
   obtain ⟨rm',rfl⟩:∃rm',rm=rm'+1:=⟨rm-1,by lia⟩
   refine ⟨_,rfl,_,rfl,_,rfl,oa,_,rfl,.inl (SqL.of eo9),aA.mpr ⟨p,(O.length:Int),by rw[wd];rfl,b9.pot,aG (by lia) (by lia),λdp Hp1 p0 p1 bp =>?_⟩⟩
   obtain ⟨v,vm,hat⟩:=rB (xs:=O) p0 p1
   have bp':=b9.trans bp
   refine ⟨oa,_,dp,_,rfl,rfl,SqL.of (bp.st _ _ noa eo9),hat,?_⟩
   refine ⟨_,rfl,_,rfl,_,rfl,_,rfl,_,rfl,_,rfl,(by show 1<=wo;decide),λo ho =>?_⟩
   have b2:=bp'.same (ab ho (.lst [.int v]))
   refine ⟨t,o,_,_,rfl,rfl,SqL.of (b2.st _ _ tp et),SqL.of ae,aU (by rw[wd];show _+1<=_;lia),λt2 ht2 =>?_⟩
   have nt2:=bq b2.pot ht2
   have b3:=b2.same (ab ht2 (.lst (T.map V.int++[.int v])))
   have e3:upd (upd Hp1 o (.lst [.int v])) t2 (.lst (T.map V.int++[.int v])) t2=some (.lst ((T++[v]).map V.int)):=by rw[ae,wB];rfl
   generalize upd (upd Hp1 o (.lst [.int v])) t2 (.lst (T.map V.int++[.int v]))=H3 at b3 e3
   refine ⟨_,rfl,_,rfl,_,_,rfl,rfl,cn.mpr ⟨p,r,wa,rl,t2,k,m,rm',ts,ws,T++[v],Kp,us,by show [_,_,_,_,_,_,V.int (((rm'+1:Nat):Int)-1)]=_;rw[show ((rm'+1:Nat):Int)-1=(rm':Int) by lia],b3.pot,W.bu b3 hp,m4,b3.st _ _ wap hw,wap,lw,b3.st _ _ nrl er,tu.bu b3 hp,pu,lu,e3,nt2,by rw[wj];show _+1+_<=_;lia,b3.st _ _ kp ek,kp,by lia,by lia,λa1 tr1 H4 b4 i1 ne1 =>?_⟩⟩
   have b34:=b3.trans b4
   refine ⟨_,rfl,_,rfl,_,rfl,_,rfl,_,rfl,_,rfl,_,rfl,_,rfl,_,rfl,(by show 1<=wo;decide),λo5 ho5 =>?_⟩
   have b5:=b34.same (ab ho5 (.lst [.int v]))
   have i5:=i1.same (ab ho5 (.lst [.int v]))
   refine ⟨k,o5,_,_,rfl,rfl,SqL.of (b5.st _ _ kp ek),SqL.of ae,aU (by rw[wd];show _+1<=_;lia),λk2 hk2 =>?_⟩
   have nk2:=bq b5.pot hk2
   have b6:=b5.same (ab hk2 (.lst (Kp.map V.int++[.int v])))
   have i6:=i5.same (ab hk2 (.lst (Kp.map V.int++[.int v])))
   have e6:upd (upd H4 o5 (.lst [.int v])) k2 (.lst (Kp.map V.int++[.int v])) k2=some (.lst ((Kp++[v]).map V.int)):=by rw[ae,wB];rfl
   generalize upd (upd H4 o5 (.lst [.int v])) k2 (.lst (Kp.map V.int++[.int v]))=H6 at b6 e6 i6
   refine ⟨_,rfl,_,_,rfl,rfl,cn.mpr ⟨p,r,wa,rl,t,k2,m,rm',ts,ws,T,Kp++[v],us,by show [_,_,_,_,_,_,V.int (((rm'+1:Nat):Int)-1)]=_;rw[show ((rm'+1:Nat):Int)-1=(rm':Int) by lia],b6.pot,W.bu b6 hp,m4,b6.st _ _ wap hw,wap,lw,b6.st _ _ nrl er,tu.bu b6 hp,pu,lu,b6.st _ _ tp et,tp,by lia,e6,nk2,by rw[wj];show _+1+_<=_;lia,by lia,λa2 tr2 H7 b7 i7 ne2 =>?_⟩⟩
   exact ⟨(by show 4<=wo;decide),λo8 ho8=>q o8 (.part v tr1 tr2) _ ((b6.trans b7).same (ab ho8 _)) ⟨rm',a1,a2,rfl,ae,(i6.bu b7 b6.pot).same (ab ho8 _),i7.same (ab ho8 _)⟩ ⟨ne1,ne2⟩⟩
 ·have Al:0<A.length:=xW.mpr λh=>hA (by rw[h];rfl)
  refine ⟨_,rfl,aS ?_⟩
  refine ⟨_,rfl,rfl,_,rfl,bN (λz=>aS ?_) λz =>?_⟩
  refine ⟨_,rfl,_,rfl,_,rfl,sa,_,rfl,.inl (SqL.of es5),aA.mpr ⟨p,(A.length:Int),by rw[wd];rfl,b5.pot,aG (by lia) (by lia),λdr Hr r0 r1 br =>?_⟩⟩
  obtain ⟨u,um,hat⟩:=iD (g:=λu:Addr×List Int=>u.1) (ts:=A) r0 r1
  have br':=b5.trans br
  refine ⟨sa,_,dr,_,rfl,rfl,SqL.of (br.st _ _ nsa es5),hat,(by show 2<=wo;decide),λo ho=>q o (.ring u.2) _ (br'.same (ab ho _)) ⟨u.1,ae,(ab ho _) _ _ (br'.tup hp (tu u (mA u um))),?_⟩ ⟨(pu u (mA u um)).1,by have:=(pu u (mA u um)).len;lia⟩⟩
  have:=(pu u (mA u um)).len
  lia
  have rm0:rm≠0:=λh=>z (decide_eq_true (by rw[h];rfl))
  refine ⟨_,rfl,(by show 0<=wo;decide),λz2 hz2 =>?_⟩
  have b6:=b5.same (ab hz2 (.lst []))
  have es6:=(ab hz2 (.lst [])) _ _ es5
  have eo6:=(ab hz2 (.lst [])) _ _ eo5
  refine ⟨oa,z2,_,_,rfl,rfl,SqL.of eo6,SqL.of ae,?_⟩
  generalize upd H5 z2 (.lst [])=H6 at b6 es6 eo6
  by_cases On:O=[]
  ·refine .inr ⟨by rw[On];exact .nil,_,rfl,aS (aS ?_)⟩
   refine ⟨_,rfl,_,rfl,_,rfl,sa,_,rfl,.inl (SqL.of es6),aA.mpr ⟨p,(A.length:Int),by rw[wd];rfl,b6.pot,aG (by lia) (by lia),λdr Hr r0 r1 br =>?_⟩⟩
   obtain ⟨u,um,hat⟩:=iD (g:=λu:Addr×List Int=>u.1) (ts:=A) r0 r1
   have br':=b6.trans br
   refine ⟨sa,_,dr,_,rfl,rfl,SqL.of (br.st _ _ nsa es6),hat,(by show 2<=wo;decide),λo ho=>q o (.ring u.2) _ (br'.same (ab ho _)) ⟨u.1,ae,(ab ho _) _ _ (br'.tup hp (tu u (mA u um))),?_⟩ ⟨(pu u (mA u um)).1,by have:=(pu u (mA u um)).len;lia⟩⟩
   have:=(pu u (mA u um)).len
   lia
  have Ol:0<O.length:=xW.mpr On
  refine .inl ⟨by rw[wd];exact y7 Ol,_,rfl,aT ?_⟩
  refine ⟨_,rfl,aA.mpr ⟨p,3,rfl,b6.pot,aG (by decide) (by decide),λd4 H8 f0 f1 b8=>⟨_,_,rfl,rfl,_,rfl,bN (λz =>?_) λz =>?_⟩⟩⟩
  ·have b9:=b6.trans b8
   have es9:=b8.st _ _ nsa es6
   refine ⟨_,rfl,_,rfl,_,rfl,sa,_,rfl,.inl (SqL.of es9),aA.mpr ⟨p,(A.length:Int),by rw[wd];rfl,b9.pot,aG (by lia) (by lia),λdr Hr r0 r1 br =>?_⟩⟩
   obtain ⟨u,um,hat⟩:=iD (g:=λu:Addr×List Int=>u.1) (ts:=A) r0 r1
   have br':=b9.trans br
   refine ⟨sa,_,dr,_,rfl,rfl,SqL.of (br.st _ _ nsa es9),hat,(by show 2<=wo;decide),λo ho=>q o (.ring u.2) _ (br'.same (ab ho _)) ⟨u.1,ae,(ab ho _) _ _ (br'.tup hp (tu u (mA u um))),?_⟩ ⟨(pu u (mA u um)).1,by have:=(pu u (mA u um)).len;lia⟩⟩
   have:=(pu u (mA u um)).len
   lia
  have b9:=b6.trans b8
  have es9:=b8.st _ _ nsa es6
  have eo9:=b8.st _ _ noa eo6
  refine ⟨_,rfl,rfl,_,rfl,?_⟩
  rw[decide_eq_false (by intro h;injection h with h;lia)]
  refine aT ⟨_,rfl,(by show 0<=wo;decide),λz3 hz3 =>?_⟩
  have b10:=b9.same (ab hz3 (.lst []))
  have es10:=(ab hz3 (.lst [])) _ _ es9
  have eo10:=(ab hz3 (.lst [])) _ _ eo9
  refine ⟨oa,z3,_,_,rfl,rfl,SqL.of eo10,SqL.of ae,.inl ⟨by rw[wd];exact y7 Ol,_,rfl,aT ?_⟩⟩
  generalize upd H8 z3 (.lst [])=H10 at b10 es10 eo10
  refine ⟨_,rfl,(by show 0<=wo;decide),λz4 hz4 =>?_⟩
  have b11:=b10.same (ab hz4 (.lst []))
  have es11:=(ab hz4 (.lst [])) _ _ es10
  have eo11:=(ab hz4 (.lst [])) _ _ eo10
  refine ⟨sa,z4,_,_,rfl,rfl,SqL.of es11,SqL.of ae,.inl ⟨by rw[wd];exact y7 Al,_,rfl,aT (aT ?_)⟩⟩
  generalize upd H10 z4 (.lst [])=H11 at b11 es11 eo11
  obtain ⟨n',rfl⟩:∃n',n=n'+1:=⟨n-1,by lia⟩
  obtain ⟨rm',rfl⟩:∃rm',rm=rm'+1:=⟨rm-1,by lia⟩
  refine ⟨_,rfl,_,rfl,_,rfl,oa,_,rfl,.inl (SqL.of eo11),aA.mpr ⟨p,(O.length:Int),by rw[wd];rfl,b11.pot,aG (by lia) (by lia),λdp Hp1 p0 p1 bp =>?_⟩⟩
  obtain ⟨v,vm,hat⟩:=rB (xs:=O) p0 p1
  have bp':=b11.trans bp
  refine ⟨oa,_,dp,_,rfl,rfl,SqL.of (bp.st _ _ noa eo11),hat,?_⟩
  refine ⟨_,rfl,_,rfl,_,rfl,_,rfl,_,rfl,_,rfl,(by show 1<=wo;decide),λo ho =>?_⟩
  have b2:=bp'.same (ab ho (.lst [.int v]))
  refine ⟨t,o,_,_,rfl,rfl,SqL.of (b2.st _ _ tp et),SqL.of ae,aU (by rw[wd];show _+1<=_;lia),λt2 ht2 =>?_⟩
  have nt2:=bq b2.pot ht2
  have b3:=b2.same (ab ht2 (.lst (T.map V.int++[.int v])))
  have e3:upd (upd Hp1 o (.lst [.int v])) t2 (.lst (T.map V.int++[.int v])) t2=some (.lst ((T++[v]).map V.int)):=by rw[ae,wB];rfl
  generalize upd (upd Hp1 o (.lst [.int v])) t2 (.lst (T.map V.int++[.int v]))=H3 at b3 e3
  refine ⟨_,rfl,_,rfl,_,_,rfl,rfl,cn.mpr ⟨p,r,wa,rl,t2,k,m,rm',ts,ws,T++[v],Kp,us,by show [_,_,_,_,_,_,V.int (((rm'+1:Nat):Int)-1)]=_;rw[show ((rm'+1:Nat):Int)-1=(rm':Int) by lia],b3.pot,W.bu b3 hp,m4,b3.st _ _ wap hw,wap,lw,b3.st _ _ nrl er,tu.bu b3 hp,pu,lu,e3,nt2,by rw[wj];show _+1+_<=_;lia,b3.st _ _ kp ek,kp,by lia,by lia,λa1 tr1 H4 b4 i1 ne1 =>?_⟩⟩
  have b34:=b3.trans b4
  refine ⟨_,rfl,_,rfl,_,rfl,_,rfl,_,rfl,_,rfl,_,rfl,_,rfl,_,rfl,(by show 1<=wo;decide),λo5 ho5 =>?_⟩
  have b5:=b34.same (ab ho5 (.lst [.int v]))
  have i5:=i1.same (ab ho5 (.lst [.int v]))
  refine ⟨k,o5,_,_,rfl,rfl,SqL.of (b5.st _ _ kp ek),SqL.of ae,aU (by rw[wd];show _+1<=_;lia),λk2 hk2 =>?_⟩
  have nk2:=bq b5.pot hk2
  have b6:=b5.same (ab hk2 (.lst (Kp.map V.int++[.int v])))
  have i6:=i5.same (ab hk2 (.lst (Kp.map V.int++[.int v])))
  have e6:upd (upd H4 o5 (.lst [.int v])) k2 (.lst (Kp.map V.int++[.int v])) k2=some (.lst ((Kp++[v]).map V.int)):=by rw[ae,wB];rfl
  generalize upd (upd H4 o5 (.lst [.int v])) k2 (.lst (Kp.map V.int++[.int v]))=H6 at b6 e6 i6
  refine ⟨_,rfl,_,_,rfl,rfl,cn.mpr ⟨p,r,wa,rl,t,k2,m,rm',ts,ws,T,Kp++[v],us,by show [_,_,_,_,_,_,V.int (((rm'+1:Nat):Int)-1)]=_;rw[show ((rm'+1:Nat):Int)-1=(rm':Int) by lia],b6.pot,W.bu b6 hp,m4,b6.st _ _ wap hw,wap,lw,b6.st _ _ nrl er,tu.bu b6 hp,pu,lu,b6.st _ _ tp et,tp,by lia,e6,nk2,by rw[wj];show _+1+_<=_;lia,by lia,λa2 tr2 H7 b7 i7 ne2 =>?_⟩⟩
  exact ⟨(by show 4<=wo;decide),λo8 ho8=>q o8 (.part v tr1 tr2) _ ((b6.trans b7).same (ab ho8 _)) ⟨rm',a1,a2,rfl,ae,(i6.bu b7 b6.pot).same (ab ho8 _),i7.same (ab ho8 _)⟩ ⟨ne1,ne2⟩⟩
end
open PySem L2
abbrev mH:Sp:=λvs H Q _=>∃(p a:Addr) (Z:List Int),vs=[.ref p,.ref a]/\Pt 1 H p/\H a=some (.tup (Z.map V.int))/\Z≠[]/\Z.length<=100/\∀(b:Addr) (Y:List Int) (H':Hp),Bu 1 p H H'->H' b=some (.tup (Y.map V.int))->Y.length<=200->Q (.ref b) H'
@[irreducible] def gI:Sp:=mH
theorem du {vs:List V}{H:Hp}{Q:VK}{E:XK}:gI vs H Q E↔mH vs H Q E:=by
 delta gI
 exact yH
section
variable  {P:wL}{w:xg}{K:wc}{mg:Str->Option wm}{base:Heap}{f T:Addr}{fd:xB}
theorem mI:aO ["pot", "ring", "way"] ["pot", "ring"] (aB kY):=⟨rfl,rfl,rfl,by decide +kernel,rfl,by decide +kernel,by decide +kernel⟩
theorem sg (F:Fun K "_law_other" "_law_other" kY f fd)(B:Blt mg)(cLTake:Cal P w K mg base 1 "_law_take" ["pot", "many"] cC):bF P w K mg base CX0 2 f fd ["pot", "ring"] gI:=by
 refine F.ok mI (λvs H Q E h =>?_) (λcdv A outer s H vs Q E hr h =>?_)
 ·obtain ⟨_,_,_,rfl,_⟩:=du.mp h
  rfl
 obtain ⟨p,a,Z,rfl,hp,ea,zn,lz,q⟩:=du.mp h
 refine ⟨_,(@ah _ _ _ _ _ (@aH _ _ 2 _ _ _ _ mI.nd rfl (Or.inl rfl) (aq cLTake hr (by decide) rfl (@aa _ _ _ _ _ (pv 0) (@aa _ _ _ _ _ ag af rfl) rfl)) rfl (by first | exact .inl rfl | exact .inr rfl | assumption))
  (@ah _ _ _ _ _ (@aN _ _ _ _ _ _ _ _ (aj bo (pv 2) ag (ax _)) (@ai _ _ _ (@au _ _ _ _ (@aE _ _ _ _ _ _ _ _ cZ (bB gB (pv 1) (bV ag) bU) (bB gB (pv 1) bU (bV ag))))) az)
  (@ah _ _ _ _ _ (@aN _ _ _ _ _ _ _ _ (aj bo (pv 2) ag (ax _)) (@ai _ _ _ (@au _ _ _ _ (tK (pv 1)))) az)
  (@ah _ _ _ _ _ (@aN _ _ _ _ _ _ _ _ (aj bo (pv 2) ag (ax _)) (@ai _ _ _ (@au _ _ _ _ (bB gB (pv 1) (bV ag) bU))) az)
  (@ah _ _ _ _ _ (@aN _ _ _ _ _ _ _ _ (aj bo (pv 2) ag (ax _)) (@ai _ _ _ (@au _ _ _ _ (@aE _ _ _ _ _ _ _ _ cZ (pv 1) (@aQ _ _ _ _ _ (@aa _ _ _ _ _ (@ay _ _ _ _ _ _ _ av (pv 1) ag (λ_ _=>rfl)) af rfl))))) az)
  (@ah _ _ _ _ _ (@aN _ _ _ _ _ _ _ _ (aj bo (pv 2) ag (ax _)) (@ai _ _ _ (@au _ _ _ _ (@aE _ _ _ _ _ _ _ _ cZ (bB gB (pv 1) bU (bV (jT gN ag))) (@aQ _ _ _ _ _ (@aa _ _ _ _ _ (@aE _ _ _ _ _ _ _ _ bh (@ay _ _ _ _ _ _ _ av (pv 1) (jT gN ag) (λ_ _=>rfl)) ag) af rfl))))) az)
  (@ai _ _ _ (@au _ _ _ _ (@aE _ _ _ _ _ _ _ _ cZ (@aQ _ _ _ _ _ (@aa _ _ _ _ _ (@aE _ _ _ _ _ _ _ _ cY (@ay _ _ _ _ _ _ _ av (pv 1) ag (λ_ _=>rfl)) ag) af rfl)) (bB gB (pv 1) (bV ag) bU)))))))))),?_⟩
 refine ⟨_,rfl,aA.mpr ⟨p,6,rfl,hp,aG (by decide) (by decide),λw1 H1 w0 w2 b1 =>?_⟩⟩
 have ea1:=b1.tup hp ea
 have zl:0<Z.length:=xW.mpr zn
 have a0:atI (Z.map V.int) 0=some (.int (Z.getD 0 0)):=iz (n:=0) zl
 have al:=ju (Z:=Z) (k:=0) zl
 have one:∀v:Int,[V.int v]=[v].map V.int:=λ_=>rfl
 refine ⟨_,rfl,rfl,_,rfl,bN (λz =>?_) λz =>?_⟩
 ·obtain ⟨Y1,f1,l1,_⟩:=hX V.int Z (some 1) none
  obtain ⟨Y2,f2,l2,_⟩:=hX V.int Z none (some 1)
  refine ⟨_,rfl,_,rfl,a,_,rfl,ea1,λc1 H2 s2 e2 =>?_⟩
  rw[f1] at e2
  refine ⟨_,rfl,_,rfl,a,_,rfl,s2 _ _ ea1,λc2 H3 s3 e3 =>?_⟩
  rw[f2] at e3
  have e2':=s3 _ _ e2
  refine ⟨c1,c2,_,_,rfl,rfl,e2',e3,aU (by rw[wd,wd];lia),λb3 H4 s4 e4=>q b3 (Y1++Y2) H4 (b1.same (s2.trans (s3.trans s4))) (by rw[e4,wB]) (by rw[wj];lia)⟩
 refine ⟨_,rfl,rfl,_,rfl,bN (λz =>?_) λz =>?_⟩
 ·exact ⟨_,rfl,a,_,rfl,SqT.of ea1,λo ho=>q o Z.reverse _ (b1.same (ab ho _)) (by rw[ae,Di]) (by rw[zt];lia)⟩
 refine ⟨_,rfl,rfl,_,rfl,bN (λz =>?_) λz =>?_⟩
 ·obtain ⟨Y1,f1,l1,_⟩:=hX V.int Z (some 1) none
  exact ⟨_,rfl,_,rfl,a,_,rfl,ea1,λc1 H2 s2 e2=>q c1 Y1 H2 (b1.same s2) (by rw[e2,f1]) (by lia)⟩
 refine ⟨_,rfl,rfl,_,rfl,bN (λz =>?_) λz =>?_⟩
 ·refine ⟨_,rfl,_,rfl,a,_,0,_,rfl,rfl,SqT.of ea1,a0,(by show 1<=wo;decide),λo ho =>?_⟩
  exact ⟨a,o,_,_,rfl,rfl,(ab ho _) _ _ ea1,ae,aU (by rw[wd];show _+1<=_;lia),λb3 H4 s4 e4=>q b3 (Z++[Z.getD 0 0]) H4 (b1.same ((ab ho _).trans s4)) (by rw[e4,wB];rfl) (by rw[wj];show _+1<=_;lia)⟩
 refine ⟨_,rfl,rfl,_,rfl,bN (λz =>?_) λz =>?_⟩
 ·obtain ⟨Y1,f1,l1,_⟩:=hX V.int Z none (some (-1))
  refine ⟨_,rfl,1,rfl,_,rfl,a,_,rfl,ea1,λc1 H2 s2 e2 =>?_⟩
  have e2:H2 c1=some (.tup (Y1.map V.int)):=e2.trans (by rw[<- f1])
  refine ⟨_,rfl,1,rfl,a,_,_,_,rfl,rfl,SqT.of (s2 _ _ ea1),al,_,_,rfl,rfl,(by show 1<=wo;decide),λo ho =>?_⟩
  exact ⟨c1,o,_,_,rfl,rfl,(ab ho _) _ _ e2,ae,aU (by rw[wd];show _+1<=_;lia),λb3 H4 s4 e4=>q b3 (Y1++[prv Z 0+1]) H4 (b1.same (s2.trans ((ab ho _).trans s4))) (by rw[e4,wB];rfl) (by rw[wj];show _+1<=_;lia)⟩
 ·obtain ⟨Y1,f1,l1,_⟩:=hX V.int Z (some 1) none
  refine ⟨_,rfl,a,_,0,_,rfl,rfl,SqT.of ea1,a0,_,_,rfl,rfl,(by show 1<=wo;decide),λo ho =>?_⟩
  have s0:=ab ho (.tup [.int (Z.getD 0 0-1)])
  refine ⟨_,rfl,_,rfl,a,_,rfl,s0 _ _ ea1,λc1 H2 s2 e2 =>?_⟩
  rw[f1] at e2
  exact ⟨o,c1,_,_,rfl,rfl,s2 _ _ ae,e2,aU (by rw[wd];show 1+_<=_;lia),λb3 H4 s4 e4=>q b3 ([Z.getD 0 0-1]++Y1) H4 (b1.same (s0.trans (s2.trans s4))) (by rw[e4,wB];rfl) (by rw[wj];show 1+_<=_;lia)⟩
end
abbrev si:Sp:=λvs H Q _=>∃(p l:Addr) (rs:List (List Int×Int)),vs=[.ref p,.ref l]/\Pt 1 H p/\Rows true H l rs/\rs.length<=50/\(∀r∈rs,r.1≠[]/\r.1.length<=100)/\∀(l':Addr) (rs':List (List Int×Int)) (H':Hp),Bu 1 p H H'->Rows true H' l' rs'->Q (.ref l') H'
@[irreducible] def oX:Sp:=si
theorem fG {vs:List V}{H:Hp}{Q:VK}{E:XK}:oX vs H Q E↔si vs H Q E:=by
 delta oX
 exact yH
def bj (H:Hp)(u:RU):Prop:=H u.1=some (.tup [.ref u.2.1,.int u.2.2.2])/\H u.2.1=some (.tup (u.2.2.1.map V.int))/\u.2.2.1.length<=200
theorem bj.same {H H':Hp}{u:RU}(h:bj H u)(s:aK H H'):bj H' u:=⟨s _ _ h.1,s _ _ h.2.1,h.2.2⟩
theorem bj.bu {H H':Hp}{u:RU}{p:Addr}(h:bj H u)(b:Bu 1 p H H')(hp:Pt 1 H p):bj H' u:=⟨b.tup hp h.1,b.tup hp h.2.1,h.2.2⟩
section
variable  {P:wL}{w:xg}{K:wc}{mg:Str->Option wm}{base:Heap}{f T:Addr}{fd:xB}
theorem ck:aO ["pot", "rows", "way", "at", "ring", "share"] ["pot", "rows"] (aB dY):=⟨rfl,rfl,rfl,by decide +kernel,rfl,by decide +kernel,by decide +kernel⟩
theorem jN (F:Fun K "_law_spoilt_rows" "_law_spoilt_rows" dY f fd)(B:Blt mg)(cLTake:Cal P w K mg base 1 "_law_take" ["pot", "many"] cC)(cLOther:Cal P w K mg base 2 "_law_other" ["pot", "ring"] gI):bF P w K mg base CX0 3 f fd ["pot", "rows"] oX:=by
 refine F.ok ck (λvs H Q E h =>?_) (λcdv A outer s H vs Q E hr h =>?_)
 ·obtain ⟨_,_,_,rfl,_⟩:=fG.mp h
  rfl
 obtain ⟨p,l,rs,rfl,hp,R,lrs,rne,q⟩:=fG.mp h
 refine ⟨_,(@ah _ _ _ _ _ (@aH _ _ 2 _ _ _ _ ck.nd rfl (Or.inl rfl) (aq cLTake hr (by decide) rfl (@aa _ _ _ _ _ (pv 0) (@aa _ _ _ _ _ ag af rfl) rfl)) rfl (by first | exact .inl rfl | exact .inr rfl | assumption))
  (@ah _ _ _ _ _ (@aN _ _ _ _ _ _ _ _ (aj (cP hr) (pv 1) (@aI _ _ _ _ af) (ax _)) (@ai _ _ _ (@au _ _ _ _ (@aI _ _ _ _ (@aa _ _ _ _ _ (@aQ _ _ _ _ _ (@aa _ _ _ _ _ (@aQ _ _ _ _ _ (@aa _ _ _ _ _ ag af rfl)) (@aa _ _ _ _ _ ag af rfl) rfl)) af rfl)))) az)
  (@ah _ _ _ _ _ (@aH _ _ 3 _ _ _ _ ck.nd rfl (Or.inl rfl) (aq cLTake hr (by decide) rfl (@aa _ _ _ _ _ (pv 0) (@aa _ _ _ _ _ (ao aP rfl B.b_len bS (@aa _ _ _ _ _ (pv 1) af rfl)) af rfl) rfl)) rfl (by first | exact .inl rfl | exact .inr rfl | assumption))
  (@ah _ _ _ _ _ (@iQ _ _ _ _ _ _ (@ay _ _ _ _ _ _ _ bC (pv 1) (pv 3) (λ_ _=>rfl)) (gL rfl (bH (aD (i:=4) ck.nd rfl (Or.inl rfl)) (bH (aD (i:=5) ck.nd rfl (Or.inl rfl)) fu))) rfl rfl rfl)
  (@ah _ _ _ _ _ (@aN _ _ _ _ _ _ _ _ (aj eF (pv 2) ag (ax _)) (@ai _ _ _ (@au _ _ _ _ (@aE _ _ _ _ _ _ _ _ bY (@aE _ _ _ _ _ _ _ _ bY (bB cJ (pv 1) bU (bV (pv 3))) (@aI _ _ _ _ (@aa _ _ _ _ _ (@aQ _ _ _ _ _ (@aa _ _ _ _ _ (aq cLOther hr (by decide) rfl (@aa _ _ _ _ _ (pv 0) (@aa _ _ _ _ _ (pv 4) af rfl) rfl)) (@aa _ _ _ _ _ (pv 5) af rfl) rfl)) af rfl))) (bB cJ (pv 1) (bV (@aE _ _ _ _ _ _ _ _ bh (pv 3) ag)) bU)))) az)
  (@ah _ _ _ _ _ (@aN _ _ _ _ _ _ _ _ (aj bo (pv 2) ag (ax _)) (@ai _ _ _ (@au _ _ _ _ (@aE _ _ _ _ _ _ _ _ bY (@aE _ _ _ _ _ _ _ _ bY (bB cJ (pv 1) bU (bV (pv 3))) (@aI _ _ _ _ (@aa _ _ _ _ _ (@aQ _ _ _ _ _ (@aa _ _ _ _ _ (pv 4) (@aa _ _ _ _ _ (@aE _ _ _ _ _ _ _ _ cY (pv 5) ag) af rfl) rfl)) af rfl))) (bB cJ (pv 1) (bV (@aE _ _ _ _ _ _ _ _ bh (pv 3) ag)) bU)))) az)
  (@ah _ _ _ _ _ (@aN _ _ _ _ _ _ _ _ (aj bo (pv 2) ag (ax _)) (@ai _ _ _ (@au _ _ _ _ (@aE _ _ _ _ _ _ _ _ bY (@aE _ _ _ _ _ _ _ _ bY (bB cJ (pv 1) bU (bV (pv 3))) (@aI _ _ _ _ (@aa _ _ _ _ _ (@aQ _ _ _ _ _ (@aa _ _ _ _ _ (pv 4) (@aa _ _ _ _ _ (@aE _ _ _ _ _ _ _ _ bh (pv 5) ag) af rfl) rfl)) af rfl))) (bB cJ (pv 1) (bV (@aE _ _ _ _ _ _ _ _ bh (pv 3) ag)) bU)))) az)
  (@ai _ _ _ (@au _ _ _ _ (@aE _ _ _ _ _ _ _ _ bY (pv 1) (@aI _ _ _ _ (@aa _ _ _ _ _ (@ay _ _ _ _ _ _ _ bC (pv 1) (pv 3) (λ_ _=>rfl)) af rfl)))))))))))),?_⟩
 obtain ⟨us,el,tu,ers,lus⟩:=R
 have el:H l=some (.lst (us.map λu =>.ref u.1)):=el
 have nl:=jz hp el
 have lum:(us.map λu=>V.ref u.1).length=us.length:=wd _
 have lu:us.length<=50:=by rw[<- ers,wd] at lrs;exact lrs
 refine ⟨_,rfl,aA.mpr ⟨p,5,rfl,hp,aG (by decide) (by decide),λw1 H1 w0 w2 b1 =>?_⟩⟩
 have el1:=b1.st _ _ nl el
 refine ⟨_,rfl,(by show 0<=wo;decide),λz1 hz1 =>?_⟩
 have g2:=ab hz1 (.lst [])
 have b2:=b1.same g2
 have el2:=g2 _ _ el1
 refine ⟨l,z1,_,_,rfl,rfl,SqL.of el2,SqL.of ae,?_⟩
 generalize upd H1 z1 (.lst [])=H2 at g2 b2 el2
 by_cases un:us=[]
 ·refine .inr ⟨by rw[un];exact .nil,_,rfl,aS ⟨(by show 1<=wo;decide),λo1 ho1=>⟨(by show 2<=wo;decide),λo2 ho2=>⟨(by show 1<=wo;decide),λo3 ho3 =>?_⟩⟩⟩⟩
  have s1:=ab ho1 (.tup [.int 0])
  have s2:=ab ho2 (.tup [.ref o1,.int 1])
  have s3:=ab ho3 (.lst [.ref o2])
  refine q o3 [([0],1)] _ (((b2.same s1).same s2).same s3) ⟨[(o2,o1,[0],1)],ae,λu hu =>?_,rfl,by show 1<=200;decide⟩
  rw[wx.mp hu]
  exact ⟨s3 _ _ ae,s3 _ _ (s2 _ _ ae),by show 1<=200;decide⟩
 have ul:0<us.length:=xW.mpr un
 refine .inl ⟨by rw[lum];exact y7 ul,_,rfl,aT ?_⟩
 refine ⟨_,rfl,_,rfl,l,_,rfl,.inl (SqL.of el2),aA.mpr ⟨p,(us.length:Int),by rw[lum];rfl,b2.pot,aG (by lia) (by lia),λdd H3 d0 d1 b3 =>?_⟩⟩
 have b3':=b2.trans b3
 have el3:=b3.st _ _ nl el2
 obtain ⟨u,um,hat⟩:=iD (g:=λu:RU=>u.1) (ts:=us) d0 d1
 have t3:∀u∈us,bj H3 u:=λu hu=>bj.bu (tu u hu) b3' hp
 have ur:(u.2.2.1,u.2.2.2)∈rs:=by rw[<- ers];exact zY (f:=(·.2.2)) um
 obtain ⟨une,ulen⟩:=rne _ ur
 refine ⟨_,rfl,_,rfl,l,_,dd,_,rfl,rfl,SqL.of el3,hat,u.1,_,rfl,SqT.of (t3 u um).1,rfl,_,_,rfl,_,_,rfl,rfl,?_⟩
 refine ⟨_,rfl,_,_,rfl,rfl,_,rfl,bN (λz =>?_) λz =>?_⟩
 ·obtain ⟨Y1,f1,l1,m1⟩:=hX (λu:RU=>V.ref u.1) us none (some dd)
  obtain ⟨Y2,f2,l2,m2⟩:=hX (λu:RU=>V.ref u.1) us (some (dd+1)) none
  have la:Y1.length+Y2.length<=us.length+us.length:=Be l1 l2
  refine ⟨_,rfl,_,rfl,_,rfl,l,_,rfl,SqL.of el3,λc1 hc1 =>?_⟩
  have g4:=ab hc1 (.lst (bM (us.map λu:RU=>V.ref u.1) none (some dd)))
  have e4:upd H3 c1 (.lst (bM (us.map λu:RU=>V.ref u.1) none (some dd))) c1=some (.lst (Y1.map λu:RU=>V.ref u.1)):=by rw[ae,f1]
  have el4:=g4 _ _ el3
  have b4:=b3'.same g4
  have t4:∀u∈us,bj (upd H3 c1 (.lst (bM (us.map λu:RU=>V.ref u.1) none (some dd)))) u:=λu hu=>(t3 u hu).same g4
  have n1:=bq b3'.pot hc1
  generalize upd H3 c1 (.lst (bM (us.map λu:RU=>V.ref u.1) none (some dd)))=H4 at g4 e4 el4 b4 t4
  refine ⟨_,rfl,_,rfl,du.mpr ⟨p,u.2.1,u.2.2.1,rfl,b4.pot,(t4 u um).2.1,une,ulen,λob Y H5 b5 eY lY =>?_⟩⟩
  have e45':=b5.st _ _ n1 e4
  have el5':=b5.st _ _ nl el4
  have b5':=b4.trans b5
  have t5':∀v∈us,bj H5 v:=λv hv=>(t4 v hv).bu b5 b4.pot
  refine ⟨_,rfl,(by show 2<=wo;decide),λo4 ho4=>⟨(by show 1<=wo;decide),λc5 hc5 =>?_⟩⟩
  have g45:=ab ho4 (.tup [.ref ob,.int u.2.2.2])
  have R5:bj (upd H5 o4 (.tup [.ref ob,.int u.2.2.2])) (o4,ob,Y,u.2.2.2):=⟨ae,g45 _ _ eY,lY⟩
  have e44:=g45 _ _ e45'
  have el5:=g45 _ _ el5'
  have b5:=b5'.same g45
  have t5:∀v∈us,bj (upd H5 o4 (.tup [.ref ob,.int u.2.2.2])) v:=λv hv=>(t5' v hv).same g45
  generalize upd H5 o4 (.tup [.ref ob,.int u.2.2.2])=H5 at g45 R5 e44 el5 b5 t5 hc5
  generalize hx4:(o4,ob,Y,u.2.2.2)=x4 at R5
  have ho4':o4=x4.1:=by rw[<- hx4]
  subst ho4'
  have g5:=ab hc5 (.lst [.ref x4.1])
  have e45:=g5 _ _ e44
  have ec5:upd H5 c5 (.lst [.ref x4.1]) c5=some (.lst ([x4].map λu:RU=>V.ref u.1)):=ae
  generalize upd H5 c5 (.lst [.ref x4.1])=H6 at g5 e45 ec5
  have R6:=R5.same g5
  refine ⟨c1,c5,_,_,rfl,rfl,SqL.of e45,SqL.of ec5,aU (by rw[wd];show _+1<=_;lia),λc6 hc6 =>?_⟩
  have g6:=ab hc6 (.lst (Y1.map (λu:RU=>V.ref u.1)++[x4].map λu:RU=>V.ref u.1))
  have ec6:upd H6 c6 (.lst (Y1.map (λu:RU=>V.ref u.1)++[x4].map λu:RU=>V.ref u.1)) c6=some (.lst ((Y1++[x4]).map λu:RU=>V.ref u.1)):=by rw[ae,wB]
  have el6:=g6 _ _ (g5 _ _ el5)
  have R7:=R6.same g6
  have b7:=(b5.same g5).same g6
  have t7:∀u∈us,bj (upd H6 c6 (.lst (Y1.map (λu:RU=>V.ref u.1)++[x4].map λu:RU=>V.ref u.1))) u:=λu hu=>((t5 u hu).same g5).same g6
  generalize upd H6 c6 (.lst (Y1.map (λu:RU=>V.ref u.1)++[x4].map λu:RU=>V.ref u.1))=H7 at g6 ec6 el6 R7 b7 t7
  refine ⟨_,rfl,_,rfl,_,_,rfl,rfl,_,rfl,l,_,rfl,SqL.of el6,λc8 hc8 =>?_⟩
  have g8:=ab hc8 (.lst (bM (us.map λu:RU=>V.ref u.1) (some (dd+1)) none))
  have ec8:upd H7 c8 (.lst (bM (us.map λu:RU=>V.ref u.1) (some (dd+1)) none)) c8=some (.lst (Y2.map λu:RU=>V.ref u.1)):=by rw[ae,f2]
  refine ⟨c6,c8,_,_,rfl,rfl,SqL.of (g8 _ _ ec6),SqL.of ec8,aU (by rw[wd,wd,wj];show _+1+_<=_;lia),λc9 hc9=>q c9 _ _ ((b7.same g8).same (ab hc9 _)) ⟨(Y1++[x4])++Y2,by rw[ae,wB (l₁:=Y1++[x4])];rfl,λu hu =>?_,rfl,by rw[wj,wj];show _+1+_<=_;lia⟩⟩
  have ss:=g8.trans (ab hc9 (.lst ((Y1++[x4]).map (λu:RU=>V.ref u.1)++Y2.map λu:RU=>V.ref u.1)))
  rcases wC.mp hu with h | h
  ·rcases wC.mp h with h | h
   ·exact (t7 u (m1 u h)).same ss
   ·rw[wx.mp h];exact R7.same ss
  ·exact (t7 u (m2 u h)).same ss
 refine ⟨_,rfl,rfl,_,rfl,bN (λz =>?_) λz =>?_⟩
 ·obtain ⟨Y1,f1,l1,m1⟩:=hX (λu:RU=>V.ref u.1) us none (some dd)
  obtain ⟨Y2,f2,l2,m2⟩:=hX (λu:RU=>V.ref u.1) us (some (dd+1)) none
  have la:Y1.length+Y2.length<=us.length+us.length:=Be l1 l2
  refine ⟨_,rfl,_,rfl,_,rfl,l,_,rfl,SqL.of el3,λc1 hc1 =>?_⟩
  have g4:=ab hc1 (.lst (bM (us.map λu:RU=>V.ref u.1) none (some dd)))
  have e4:upd H3 c1 (.lst (bM (us.map λu:RU=>V.ref u.1) none (some dd))) c1=some (.lst (Y1.map λu:RU=>V.ref u.1)):=by rw[ae,f1]
  have el4:=g4 _ _ el3
  have b4:=b3'.same g4
  have t4:∀u∈us,bj (upd H3 c1 (.lst (bM (us.map λu:RU=>V.ref u.1) none (some dd)))) u:=λu hu=>(t3 u hu).same g4
  have n1:=bq b3'.pot hc1
  generalize upd H3 c1 (.lst (bM (us.map λu:RU=>V.ref u.1) none (some dd)))=H4 at g4 e4 el4 b4 t4
  refine ⟨_,rfl,_,rfl,_,_,rfl,rfl,(by show 2<=wo;decide),λo4 ho4=>⟨(by show 1<=wo;decide),λc5 hc5 =>?_⟩⟩
  have g45:=ab ho4 (.tup [.ref u.2.1,.int (u.2.2.2-1)])
  have R5:bj (upd H4 o4 (.tup [.ref u.2.1,.int (u.2.2.2-1)])) (o4,u.2.1,u.2.2.1,u.2.2.2-1):=⟨ae,g45 _ _ (t4 u um).2.1,(t4 u um).2.2⟩
  have e44:=g45 _ _ e4
  have el5:=g45 _ _ el4
  have b5:=b4.same g45
  have t5:∀v∈us,bj (upd H4 o4 (.tup [.ref u.2.1,.int (u.2.2.2-1)])) v:=λv hv=>(t4 v hv).same g45
  generalize upd H4 o4 (.tup [.ref u.2.1,.int (u.2.2.2-1)])=H5 at g45 R5 e44 el5 b5 t5 hc5
  generalize hx4:(o4,u.2.1,u.2.2.1,u.2.2.2-1)=x4 at R5
  have ho4':o4=x4.1:=by rw[<- hx4]
  subst ho4'
  have g5:=ab hc5 (.lst [.ref x4.1])
  have e45:=g5 _ _ e44
  have ec5:upd H5 c5 (.lst [.ref x4.1]) c5=some (.lst ([x4].map λu:RU=>V.ref u.1)):=ae
  generalize upd H5 c5 (.lst [.ref x4.1])=H6 at g5 e45 ec5
  have R6:=R5.same g5
  refine ⟨c1,c5,_,_,rfl,rfl,SqL.of e45,SqL.of ec5,aU (by rw[wd];show _+1<=_;lia),λc6 hc6 =>?_⟩
  have g6:=ab hc6 (.lst (Y1.map (λu:RU=>V.ref u.1)++[x4].map λu:RU=>V.ref u.1))
  have ec6:upd H6 c6 (.lst (Y1.map (λu:RU=>V.ref u.1)++[x4].map λu:RU=>V.ref u.1)) c6=some (.lst ((Y1++[x4]).map λu:RU=>V.ref u.1)):=by rw[ae,wB]
  have el6:=g6 _ _ (g5 _ _ el5)
  have R7:=R6.same g6
  have b7:=(b5.same g5).same g6
  have t7:∀u∈us,bj (upd H6 c6 (.lst (Y1.map (λu:RU=>V.ref u.1)++[x4].map λu:RU=>V.ref u.1))) u:=λu hu=>((t5 u hu).same g5).same g6
  generalize upd H6 c6 (.lst (Y1.map (λu:RU=>V.ref u.1)++[x4].map λu:RU=>V.ref u.1))=H7 at g6 ec6 el6 R7 b7 t7
  refine ⟨_,rfl,_,rfl,_,_,rfl,rfl,_,rfl,l,_,rfl,SqL.of el6,λc8 hc8 =>?_⟩
  have g8:=ab hc8 (.lst (bM (us.map λu:RU=>V.ref u.1) (some (dd+1)) none))
  have ec8:upd H7 c8 (.lst (bM (us.map λu:RU=>V.ref u.1) (some (dd+1)) none)) c8=some (.lst (Y2.map λu:RU=>V.ref u.1)):=by rw[ae,f2]
  refine ⟨c6,c8,_,_,rfl,rfl,SqL.of (g8 _ _ ec6),SqL.of ec8,aU (by rw[wd,wd,wj];show _+1+_<=_;lia),λc9 hc9=>q c9 _ _ ((b7.same g8).same (ab hc9 _)) ⟨(Y1++[x4])++Y2,by rw[ae,wB (l₁:=Y1++[x4])];rfl,λu hu =>?_,rfl,by rw[wj,wj];show _+1+_<=_;lia⟩⟩
  have ss:=g8.trans (ab hc9 (.lst ((Y1++[x4]).map (λu:RU=>V.ref u.1)++Y2.map λu:RU=>V.ref u.1)))
  rcases wC.mp hu with h | h
  ·rcases wC.mp h with h | h
   ·exact (t7 u (m1 u h)).same ss
   ·rw[wx.mp h];exact R7.same ss
  ·exact (t7 u (m2 u h)).same ss
 refine ⟨_,rfl,rfl,_,rfl,bN (λz =>?_) λz =>?_⟩
 ·obtain ⟨Y1,f1,l1,m1⟩:=hX (λu:RU=>V.ref u.1) us none (some dd)
  obtain ⟨Y2,f2,l2,m2⟩:=hX (λu:RU=>V.ref u.1) us (some (dd+1)) none
  have la:Y1.length+Y2.length<=us.length+us.length:=Be l1 l2
  refine ⟨_,rfl,_,rfl,_,rfl,l,_,rfl,SqL.of el3,λc1 hc1 =>?_⟩
  have g4:=ab hc1 (.lst (bM (us.map λu:RU=>V.ref u.1) none (some dd)))
  have e4:upd H3 c1 (.lst (bM (us.map λu:RU=>V.ref u.1) none (some dd))) c1=some (.lst (Y1.map λu:RU=>V.ref u.1)):=by rw[ae,f1]
  have el4:=g4 _ _ el3
  have b4:=b3'.same g4
  have t4:∀u∈us,bj (upd H3 c1 (.lst (bM (us.map λu:RU=>V.ref u.1) none (some dd)))) u:=λu hu=>(t3 u hu).same g4
  have n1:=bq b3'.pot hc1
  generalize upd H3 c1 (.lst (bM (us.map λu:RU=>V.ref u.1) none (some dd)))=H4 at g4 e4 el4 b4 t4
  refine ⟨_,rfl,_,rfl,_,_,rfl,rfl,(by show 2<=wo;decide),λo4 ho4=>⟨(by show 1<=wo;decide),λc5 hc5 =>?_⟩⟩
  have g45:=ab ho4 (.tup [.ref u.2.1,.int (u.2.2.2+1)])
  have R5:bj (upd H4 o4 (.tup [.ref u.2.1,.int (u.2.2.2+1)])) (o4,u.2.1,u.2.2.1,u.2.2.2+1):=⟨ae,g45 _ _ (t4 u um).2.1,(t4 u um).2.2⟩
  have e44:=g45 _ _ e4
  have el5:=g45 _ _ el4
  have b5:=b4.same g45
  have t5:∀v∈us,bj (upd H4 o4 (.tup [.ref u.2.1,.int (u.2.2.2+1)])) v:=λv hv=>(t4 v hv).same g45
  generalize upd H4 o4 (.tup [.ref u.2.1,.int (u.2.2.2+1)])=H5 at g45 R5 e44 el5 b5 t5 hc5
  generalize hx4:(o4,u.2.1,u.2.2.1,u.2.2.2+1)=x4 at R5
  have ho4':o4=x4.1:=by rw[<- hx4]
  subst ho4'
  have g5:=ab hc5 (.lst [.ref x4.1])
  have e45:=g5 _ _ e44
  have ec5:upd H5 c5 (.lst [.ref x4.1]) c5=some (.lst ([x4].map λu:RU=>V.ref u.1)):=ae
  generalize upd H5 c5 (.lst [.ref x4.1])=H6 at g5 e45 ec5
  have R6:=R5.same g5
  refine ⟨c1,c5,_,_,rfl,rfl,SqL.of e45,SqL.of ec5,aU (by rw[wd];show _+1<=_;lia),λc6 hc6 =>?_⟩
  have g6:=ab hc6 (.lst (Y1.map (λu:RU=>V.ref u.1)++[x4].map λu:RU=>V.ref u.1))
  have ec6:upd H6 c6 (.lst (Y1.map (λu:RU=>V.ref u.1)++[x4].map λu:RU=>V.ref u.1)) c6=some (.lst ((Y1++[x4]).map λu:RU=>V.ref u.1)):=by rw[ae,wB]
  have el6:=g6 _ _ (g5 _ _ el5)
  have R7:=R6.same g6
  have b7:=(b5.same g5).same g6
  have t7:∀u∈us,bj (upd H6 c6 (.lst (Y1.map (λu:RU=>V.ref u.1)++[x4].map λu:RU=>V.ref u.1))) u:=λu hu=>((t5 u hu).same g5).same g6
  generalize upd H6 c6 (.lst (Y1.map (λu:RU=>V.ref u.1)++[x4].map λu:RU=>V.ref u.1))=H7 at g6 ec6 el6 R7 b7 t7
  refine ⟨_,rfl,_,rfl,_,_,rfl,rfl,_,rfl,l,_,rfl,SqL.of el6,λc8 hc8 =>?_⟩
  have g8:=ab hc8 (.lst (bM (us.map λu:RU=>V.ref u.1) (some (dd+1)) none))
  have ec8:upd H7 c8 (.lst (bM (us.map λu:RU=>V.ref u.1) (some (dd+1)) none)) c8=some (.lst (Y2.map λu:RU=>V.ref u.1)):=by rw[ae,f2]
  refine ⟨c6,c8,_,_,rfl,rfl,SqL.of (g8 _ _ ec6),SqL.of ec8,aU (by rw[wd,wd,wj];show _+1+_<=_;lia),λc9 hc9=>q c9 _ _ ((b7.same g8).same (ab hc9 _)) ⟨(Y1++[x4])++Y2,by rw[ae,wB (l₁:=Y1++[x4])];rfl,λu hu =>?_,rfl,by rw[wj,wj];show _+1+_<=_;lia⟩⟩
  have ss:=g8.trans (ab hc9 (.lst ((Y1++[x4]).map (λu:RU=>V.ref u.1)++Y2.map λu:RU=>V.ref u.1)))
  rcases wC.mp hu with h | h
  ·rcases wC.mp h with h | h
   ·exact (t7 u (m1 u h)).same ss
   ·rw[wx.mp h];exact R7.same ss
  ·exact (t7 u (m2 u h)).same ss
 ·refine ⟨_,rfl,_,rfl,_,rfl,l,_,dd,_,rfl,rfl,SqL.of el3,hat,(by show 1<=wo;decide),λc5 hc5 =>?_⟩
  have g5:=ab hc5 (.lst [.ref u.1])
  refine ⟨l,c5,_,_,rfl,rfl,SqL.of (g5 _ _ el3),SqL.of ae,aU (by rw[lum];show _+1<=_;lia),λc6 hc6=>q c6 _ _ ((b3'.same g5).same (ab hc6 _)) ⟨us++[u],by rw[ae,wB];rfl,λv hv =>?_,rfl,by rw[wj];show _+1<=_;lia⟩⟩
  have ss:=g5.trans (ab hc6 (.lst (us.map (λu=>V.ref u.1)++[.ref u.1])))
  rcases wC.mp hv with h | h
  ·exact (t3 v h).same ss
  ·rw[wx.mp h];exact (t3 u um).same ss
end
open PySem L2
@[irreducible] def eE:Nat->Sp
 | 0=>λ_ _ _ _=>False
 | n+1=>λvs H Q _=>∃(p r a:Addr) (m:Nat) (ts:List (Addr×List Int)) (tr:Tr),vs=[.ref p,.ref r,.ref a]/\Pt 1 H p/\Wb H r m ts/\m<=40/\bK true H n a tr/\qp tr/\∀(a':Addr) (tr':Tr) (H':Hp),Bu 1 p H H'->bK true H' n a' tr'->Q (.ref a') H'
theorem cH {n:Nat}{vs:List V}{H:Hp}{Q:VK}{E:XK}:eE (n+1) vs H Q E↔∃(p r a:Addr) (m:Nat) (ts:List (Addr×List Int)) (tr:Tr),vs=[.ref p,.ref r,.ref a]/\Pt 1 H p/\Wb H r m ts/\m<=40/\bK true H n a tr/\qp tr/\∀(a':Addr) (tr':Tr) (H':Hp),Bu 1 p H H'->bK true H' n a' tr'->Q (.ref a') H':=by
 unfold eE
 exact yH
theorem nU {vs:List V}{H:Hp}{Q:VK}{E:XK}:¬ eE 0 vs H Q E:=by
 unfold eE
 exact id
section
variable  {P:wL}{w:xg}{K:wc}{mg:Str->Option wm}{base:Heap}{f T:Addr}{fd:xB}
theorem ku:aO ["pot", "web", "tree", "way"] ["pot", "web", "tree"] (aB jl):=⟨rfl,rfl,rfl,by decide +kernel,rfl,by decide +kernel,by decide +kernel⟩
theorem qr (F:Fun K "_law_spoilt" "_law_spoilt" jl f fd)(B:Blt mg)(n:Nat)(cLSpoilt:Cal P w K mg base (3+n) "_law_spoilt" ["pot", "web", "tree"] (eE n))(cLTake:Cal P w K mg base 1 "_law_take" ["pot", "many"] cC)(cLOther:Cal P w K mg base 2 "_law_other" ["pot", "ring"] gI)(cLSpoiltRows:Cal P w K mg base 3 "_law_spoilt_rows" ["pot", "rows"] oX):bF P w K mg base CX0 (3+n+1) f fd ["pot", "web", "tree"] (eE (n+1)):=by
 refine F.ok ku (λvs H Q E h =>?_) (λcdv A outer s H vs Q E hr h =>?_)
 ·obtain ⟨_,_,_,_,_,_,rfl,_⟩:=cH.mp h
  rfl
 obtain ⟨p,r,a,m,ts,tr,rfl,hp,W,m4,tr0,ne,q⟩:=cH.mp h
 refine ⟨_,(@ah _ _ _ _ _ (@aN _ _ _ _ _ _ _ _ (aj bo (@ay _ _ _ _ _ _ _ av (pv 2) ag (λ_ _=>rfl)) aV (ax _)) (@ah _ _ _ _ _ (@aN _ _ _ _ _ _ _ _ (aj bo (aq cLTake hr (by lia) rfl (@aa _ _ _ _ _ (pv 0) (@aa _ _ _ _ _ ag af rfl) rfl)) ag (ax _)) (@ai _ _ _ (@au _ _ _ _ (@aQ _ _ _ _ _ (@aa _ _ _ _ _ aV (@aa _ _ _ _ _ (@aI _ _ _ _ (@aa _ _ _ _ _ (@aQ _ _ _ _ _ (@aa _ _ _ _ _ (@ay _ _ _ _ _ _ _ av (pv 2) ag (λ_ _=>rfl)) (@aa _ _ _ _ _ ag af rfl) rfl)) af rfl)) af rfl) rfl)))) az)
   (@ai _ _ _ (@au _ _ _ _ (@aQ _ _ _ _ _ (@aa _ _ _ _ _ aV (@aa _ _ _ _ _ (aq cLOther hr (by lia) rfl (@aa _ _ _ _ _ (pv 0) (@aa _ _ _ _ _ (@ay _ _ _ _ _ _ _ av (pv 2) ag (λ_ _=>rfl)) af rfl) rfl)) af rfl) rfl))))) az)
  (@ah _ _ _ _ _ (@aN _ _ _ _ _ _ _ _ (aj bo (@ay _ _ _ _ _ _ _ av (pv 2) ag (λ_ _=>rfl)) aV (ax _)) (@ah _ _ _ _ _ (@aN _ _ _ _ _ _ _ _ (PW.pt (cz (aj (nC hr) (@ay _ _ _ _ _ _ _ av (pv 2) ag (λ_ _=>rfl)) (@aI _ _ _ _ af) (ax _)) (bW (aj bo (aq cLTake hr (by lia) rfl (@aa _ _ _ _ _ (pv 0) (@aa _ _ _ _ _ ag af rfl) rfl)) ag (ax _))))) (@ai _ _ _ (@au _ _ _ _ (@aQ _ _ _ _ _ (@aa _ _ _ _ _ aV (@aa _ _ _ _ _ (@ay _ _ _ _ _ _ _ av (@ay _ _ _ _ _ _ _ bC (@ay _ _ _ _ _ _ _ av (pv 2) ag (λ_ _=>rfl)) ag (λ_ _=>rfl)) ag (λ_ _=>rfl)) af rfl) rfl)))) az)
   (@ai _ _ _ (@au _ _ _ _ (@aQ _ _ _ _ _ (@aa _ _ _ _ _ aV (@aa _ _ _ _ _ (aq cLSpoiltRows hr (by lia) rfl (@aa _ _ _ _ _ (pv 0) (@aa _ _ _ _ _ (@ay _ _ _ _ _ _ _ av (pv 2) ag (λ_ _=>rfl)) af rfl) rfl)) af rfl) rfl))))) az)
  (@ah _ _ _ _ _ (@aH _ _ 3 _ _ _ _ ku.nd rfl (Or.inl rfl) (aq cLTake hr (by lia) rfl (@aa _ _ _ _ _ (pv 0) (@aa _ _ _ _ _ ag af rfl) rfl)) rfl (by first | exact .inl rfl | exact .inr rfl | assumption))
  (@ah _ _ _ _ _ (@aN _ _ _ _ _ _ _ _ (aj bo (pv 3) ag (ax _)) (@ai _ _ _ (@au _ _ _ _ (@aQ _ _ _ _ _ (@aa _ _ _ _ _ aV (@aa _ _ _ _ _ (@ay _ _ _ _ _ _ _ av (pv 2) ag (λ_ _=>rfl)) (@aa _ _ _ _ _ (@ay _ _ _ _ _ _ _ av (pv 2) ag (λ_ _=>rfl)) (@aa _ _ _ _ _ (@ay _ _ _ _ _ _ _ av (pv 2) ag (λ_ _=>rfl)) af rfl) rfl) rfl) rfl)))) az)
  (@ah _ _ _ _ _ (@aN _ _ _ _ _ _ _ _ (aj bo (pv 3) ag (ax _)) (@ai _ _ _ (@au _ _ _ _ (@aQ _ _ _ _ _ (@aa _ _ _ _ _ aV (@aa _ _ _ _ _ (@aE _ _ _ _ _ _ _ _ cY (aq cLTake hr (by lia) rfl (@aa _ _ _ _ _ (pv 0) (@aa _ _ _ _ _ (@aE _ _ _ _ _ _ _ _ bh (@ay _ _ _ _ _ _ _ av (pv 1) ag (λ_ _=>rfl)) ag) af rfl) rfl)) ag) (@aa _ _ _ _ _ (@ay _ _ _ _ _ _ _ av (pv 2) ag (λ_ _=>rfl)) (@aa _ _ _ _ _ (@ay _ _ _ _ _ _ _ av (pv 2) ag (λ_ _=>rfl)) af rfl) rfl) rfl) rfl)))) az)
  (@ah _ _ _ _ _ (@aN _ _ _ _ _ _ _ _ (aj eF (pv 3) ag (ax _)) (@ai _ _ _ (@au _ _ _ _ (@aQ _ _ _ _ _ (@aa _ _ _ _ _ aV (@aa _ _ _ _ _ (@ay _ _ _ _ _ _ _ av (pv 2) ag (λ_ _=>rfl)) (@aa _ _ _ _ _ (aq cLSpoilt hr (wq _) rfl (@aa _ _ _ _ _ (pv 0) (@aa _ _ _ _ _ (pv 1) (@aa _ _ _ _ _ (@ay _ _ _ _ _ _ _ av (pv 2) ag (λ_ _=>rfl)) af rfl) rfl) rfl)) (@aa _ _ _ _ _ (@ay _ _ _ _ _ _ _ av (pv 2) ag (λ_ _=>rfl)) af rfl) rfl) rfl) rfl)))) az)
  (@ai _ _ _ (@au _ _ _ _ (@aQ _ _ _ _ _ (@aa _ _ _ _ _ aV (@aa _ _ _ _ _ (@ay _ _ _ _ _ _ _ av (pv 2) ag (λ_ _=>rfl)) (@aa _ _ _ _ _ (@ay _ _ _ _ _ _ _ av (pv 2) ag (λ_ _=>rfl)) (@aa _ _ _ _ _ (aq cLSpoilt hr (wq _) rfl (@aa _ _ _ _ _ (pv 0) (@aa _ _ _ _ _ (pv 1) (@aa _ _ _ _ _ (@ay _ _ _ _ _ _ _ av (pv 2) ag (λ_ _=>rfl)) af rfl) rfl) rfl)) af rfl) rfl) rfl) rfl)))))))))),?_⟩
 obtain ⟨tt,e1,e2⟩:=W.at'
 have b0:=Bu.refl hp
 cases tr with
 | ring Z =>
  obtain ⟨z,ea,ez,lz⟩:=tr0
  refine ⟨_,rfl,a,_,0,_,rfl,rfl,SqT.of ea,rfl,rfl,_,rfl,?_⟩
  rw[decide_eq_true (rfl:V.str "ring" = V.str "ring")]
  refine aS ⟨_,rfl,aA.mpr ⟨p,3,rfl,hp,aG (by decide) (by decide),λd H1 d0 d1 b1=>⟨rfl,_,rfl,bN (λc =>?_) λc =>?_⟩⟩⟩
  ·refine ⟨_,rfl,a,_,1,_,rfl,rfl,SqT.of (b1.tup hp ea),rfl,(by show 2<=wo;decide),λo1 ho1=>⟨(by show 1<=wo;decide),λo2 ho2=>⟨(by show 2<=wo;decide),λo3 ho3 =>?_⟩⟩⟩
   have s1:=ab ho1 (.tup [.ref z,.int 1])
   have s2:=ab ho2 (.lst [.ref o1])
   have s3:=ab ho3 (.tup [.str "shares",.ref o2])
   refine q o3 (.rows [(Z,1)]) _ (((b1.same s1).same s2).same s3) ⟨o2,ae,[(o1,z,Z,1)],s3 _ _ ae,λu hu =>?_,rfl,by show 1<=200;decide⟩
   rw[wx.mp hu]
   exact ⟨s3 _ _ (s2 _ _ ae),s3 _ _ (s2 _ _ (s1 _ _ (b1.tup hp ez))),lz⟩
  ·exact ⟨_,rfl,_,rfl,a,_,1,_,rfl,rfl,SqT.of (b1.tup hp ea),rfl,du.mpr ⟨p,z,Z,rfl,b1.pot,b1.tup hp ez,ne.1,ne.2,λob Y H2 b2 eY lY=>⟨(by show 2<=wo;decide),λo ho=>q o (.ring Y) _ ((b1.trans b2).same (ab ho _)) ⟨ob,ae,(ab ho _) _ _ eY,lY⟩⟩⟩⟩
 | rows rs =>
  obtain ⟨l,ea,R⟩:=tr0
  refine ⟨_,rfl,a,_,0,_,rfl,rfl,SqT.of ea,rfl,rfl,_,rfl,?_⟩
  rw[decide_eq_false (λz=>oK (V.str.inj z))]
  refine aT ⟨_,rfl,a,_,0,_,rfl,rfl,SqT.of ea,rfl,rfl,_,rfl,?_⟩
  rw[decide_eq_true (rfl:V.str "shares" = V.str "shares")]
  refine aS ⟨_,rfl,a,_,1,_,rfl,rfl,SqT.of ea,rfl,(by show 0<=wo;decide),λz1 hz1 =>?_⟩
  have g1:=ab hz1 (.lst [])
  have b1:=b0.same g1
  obtain ⟨us,el,tu,ers,lus⟩:=id R
  have el:H l=some (.lst (us.map λu =>.ref u.1)):=el
  have nl:=jz hp el
  refine ⟨l,z1,_,rfl,rfl,g1 _ _ el,ae,λc=>⟨_,rfl,aT (aT ?_)⟩,λc=>⟨_,rfl,aS ?_⟩⟩
  ·exact ⟨_,rfl,_,rfl,a,_,1,_,rfl,rfl,SqT.of (b1.tup hp ea),rfl,fG.mpr ⟨p,l,rs,rfl,b1.pot,R.bu b1 hp,ne.1,ne.2,λl' rs' H9 b9 R9=>⟨(by show 2<=wo;decide),λo ho=>q o (.rows rs') _ ((b1.trans b9).same (ab ho _)) ⟨l',ae,R9.same (ab ho _)⟩⟩⟩⟩
  refine ⟨_,rfl,aA.mpr ⟨p,6,rfl,b1.pot,aG (by decide) (by decide),λd H2 d0 d1 b2'=>⟨rfl,_,rfl,bN (λc2 =>?_) λc2 =>?_⟩⟩⟩
  ·have b2:=b1.trans b2'
   match us,tu,el,c with
   | u :: us',tu,el,_ =>
    obtain ⟨h1,h2,h3⟩:=tu u wY
    have a0:atI ((u :: us').map λu=>V.ref u.1) 0=some (.ref u.1):=fw (j:=0) rfl
    exact ⟨_,rfl,a,_,1,_,rfl,rfl,SqT.of (b2.tup hp ea),rfl,l,_,0,_,rfl,rfl,SqL.of (b2.st _ _ nl el),a0,u.1,_,0,_,rfl,rfl,SqT.of (b2.tup hp h1),rfl,(by show 2<=wo;decide),λo ho=>q o (.ring u.2.2.1) _ (b2.same (ab ho _)) ⟨u.2.1,ae,(ab ho _) _ _ (b2.tup hp h2),h3⟩⟩
  ·have b2:=b1.trans b2'
   exact ⟨_,rfl,_,rfl,a,_,1,_,rfl,rfl,SqT.of (b2.tup hp ea),rfl,fG.mpr ⟨p,l,rs,rfl,b2.pot,R.bu b2 hp,ne.1,ne.2,λl' rs' H9 b9 R9=>⟨(by show 2<=wo;decide),λo ho=>q o (.rows rs') _ ((b2.trans b9).same (ab ho _)) ⟨l',ae,R9.same (ab ho _)⟩⟩⟩⟩
 | part v x y =>
  obtain ⟨n',i1,i2,rfl,ea,hx,hy⟩:=tr0
  refine ⟨_,rfl,a,_,0,_,rfl,rfl,SqT.of ea,rfl,rfl,_,rfl,?_⟩
  rw[decide_eq_false (λz=>oM (V.str.inj z))]
  refine aT ⟨_,rfl,a,_,0,_,rfl,rfl,SqT.of ea,rfl,rfl,_,rfl,?_⟩
  rw[decide_eq_false (λz=>oN (V.str.inj z))]
  refine aT ⟨_,rfl,aA.mpr ⟨p,6,rfl,hp,aG (by decide) (by decide),λd H1 d0 d1 b1 =>?_⟩⟩
  have ea1:=b1.tup hp ea
  have hx1:=hx.bu b1 hp
  have hy1:=hy.bu b1 hp
  refine ⟨_,rfl,rfl,_,rfl,bN (λc =>?_) λc =>?_⟩
  ·exact ⟨_,rfl,a,_,1,_,rfl,rfl,SqT.of ea1,rfl,_,rfl,a,_,3,_,rfl,rfl,SqT.of ea1,rfl,_,rfl,a,_,2,_,rfl,rfl,SqT.of ea1,rfl,(by show 4<=wo;decide),λo ho=>q o (.part v y x) _ (b1.same (ab ho _)) ⟨n',i2,i1,rfl,ae,hy1.same (ab ho _),hx1.same (ab ho _)⟩⟩
  refine ⟨_,rfl,rfl,_,rfl,bN (λc =>?_) λc =>?_⟩
  ·refine ⟨_,rfl,_,rfl,r,_,0,_,rfl,rfl,SqT.of (b1.tup hp e1),rfl,_,_,rfl,rfl,aA.mpr ⟨p,(m:Int)+2,rfl,b1.pot,aG (by lia) (by lia),λd' H2 f0 f1 b2=>⟨_,_,rfl,rfl,?_⟩⟩⟩
   have b12:=b1.trans b2
   have ea2:=b12.tup hp ea
   exact ⟨_,rfl,a,_,2,_,rfl,rfl,SqT.of ea2,rfl,_,rfl,a,_,3,_,rfl,rfl,SqT.of ea2,rfl,(by show 4<=wo;decide),λo ho=>q o (.part (d'-1) x y) _ (b12.same (ab ho _)) ⟨n',i1,i2,rfl,ae,(hx.bu b12 hp).same (ab ho _),(hy.bu b12 hp).same (ab ho _)⟩⟩
  refine ⟨_,rfl,_,_,rfl,rfl,_,rfl,bN (λc =>?_) λc =>?_⟩
  ·refine ⟨_,rfl,a,_,1,_,rfl,rfl,SqT.of ea1,rfl,_,rfl,_,rfl,_,rfl,a,_,2,_,rfl,rfl,SqT.of ea1,rfl,cH.mpr ⟨p,r,i1,m,ts,x,rfl,b1.pot,W.bu b1 hp,m4,hx1,ne.1,λa2 tr2 H2 b2 h2 =>?_⟩⟩
   have b12:=b1.trans b2
   exact ⟨_,rfl,a,_,3,_,rfl,rfl,SqT.of (b12.tup hp ea),rfl,(by show 4<=wo;decide),λo ho=>q o (.part v tr2 y) _ (b12.same (ab ho _)) ⟨n',a2,i2,rfl,ae,h2.same (ab ho _),(hy.bu b12 hp).same (ab ho _)⟩⟩
  ·refine ⟨_,rfl,a,_,1,_,rfl,rfl,SqT.of ea1,rfl,_,rfl,a,_,2,_,rfl,rfl,SqT.of ea1,rfl,_,rfl,_,rfl,_,rfl,a,_,3,_,rfl,rfl,SqT.of ea1,rfl,cH.mpr ⟨p,r,i2,m,ts,y,rfl,b1.pot,W.bu b1 hp,m4,hy1,ne.2,λa2 tr2 H2 b2 h2 =>?_⟩⟩
   have b12:=b1.trans b2
   exact ⟨(by show 4<=wo;decide),λo ho=>q o (.part v x tr2) _ (b12.same (ab ho _)) ⟨n',i1,a2,rfl,ae,(hx.bu b12 hp).same (ab ho _),h2.same (ab ho _)⟩⟩
end
@[irreducible] def jA:Nat->Sp
 | 0=>λ_ _ _ _=>False
 | n+1=>λvs H Q _=>∃(a:Addr) (tr:Tr),vs=[.ref a]/\bK true H n a tr/\∀(a':Addr) (H':Hp),aK H H'->bK false H' n a' tr->Q (.ref a') H'
theorem cU {n:Nat}{vs:List V}{H:Hp}{Q:VK}{E:XK}:jA (n+1) vs H Q E↔∃(a:Addr) (tr:Tr),vs=[.ref a]/\bK true H n a tr/\∀(a':Addr) (H':Hp),aK H H'->bK false H' n a' tr->Q (.ref a') H':=by
 unfold jA
 exact yH
theorem sj {vs:List V}{H:Hp}{Q:VK}{E:XK}:¬ jA 0 vs H Q E:=by
 unfold jA
 exact id
section
variable  {P:wL}{w:xg}{K:wc}{mg:Str->Option wm}{base:Heap}{f T:Addr}{fd:xB}
theorem qs:aO ["tree"] ["tree"] (aB jm):=⟨rfl,rfl,rfl,by decide +kernel,rfl,by decide +kernel,by decide +kernel⟩
theorem qu (F:Fun K "_law_tupled" "_law_tupled" jm f fd)(B:Blt mg)(n:Nat)(cLTupled:Cal P w K mg base (0+n) "_law_tupled" ["tree"] (jA n)):bF P w K mg base CX0 (0+n+1) f fd ["tree"] (jA (n+1)):=by
 refine F.ok qs (λvs H Q E h =>?_) (λcdv A outer s H vs Q E hr h =>?_)
 ·obtain ⟨_,_,rfl,_⟩:=cU.mp h
  rfl
 obtain ⟨a,tr,rfl,tr0,q⟩:=cU.mp h
 refine ⟨_,(@ah _ _ _ _ _ (@aN _ _ _ _ _ _ _ _ (aj bo (@ay _ _ _ _ _ _ _ av (pv 0) ag (λ_ _=>rfl)) aV (ax _)) (@ai _ _ _ (@au _ _ _ _ (@aQ _ _ _ _ _ (@aa _ _ _ _ _ aV (@aa _ _ _ _ _ (bb cj rfl B.b_tuple da (@aa _ _ _ _ _ (@ay _ _ _ _ _ _ _ av (pv 0) ag (λ_ _=>rfl)) af rfl)) af rfl) rfl)))) az)
  (@ah _ _ _ _ _ (@aN _ _ _ _ _ _ _ _ (aj bo (@ay _ _ _ _ _ _ _ av (pv 0) ag (λ_ _=>rfl)) aV (ax _)) (@ai _ _ _ (@au _ _ _ _ (@aQ _ _ _ _ _ (@aa _ _ _ _ _ aV (@aa _ _ _ _ _ (@ay _ _ _ _ _ _ _ av (pv 0) ag (λ_ _=>rfl)) (@aa _ _ _ _ _ (aq cLTupled hr (wq _) rfl (@aa _ _ _ _ _ (@ay _ _ _ _ _ _ _ av (pv 0) ag (λ_ _=>rfl)) af rfl)) (@aa _ _ _ _ _ (aq cLTupled hr (wq _) rfl (@aa _ _ _ _ _ (@ay _ _ _ _ _ _ _ av (pv 0) ag (λ_ _=>rfl)) af rfl)) af rfl) rfl) rfl) rfl)))) az)
  (@ai _ _ _ (@au _ _ _ _ (pv 0))))),?_⟩
 cases tr with
 | ring Z =>
  obtain ⟨z,ea,ez,lz⟩:=tr0
  refine ⟨_,rfl,a,_,0,_,rfl,rfl,SqT.of ea,rfl,rfl,_,rfl,?_⟩
  rw[decide_eq_false (λz=>oK (V.str.inj z).symm)]
  refine aT ⟨_,rfl,a,_,0,_,rfl,rfl,SqT.of ea,rfl,rfl,_,rfl,?_⟩
  rw[decide_eq_false (λz=>oM (V.str.inj z).symm)]
  exact aT ⟨_,rfl,q a _ (aK.refl _) ⟨z,ea,ez,lz⟩⟩
 | rows rs =>
  obtain ⟨l,ea,us,el,tu,ers,lus⟩:=tr0
  have el:H l=some (.lst (us.map λu =>.ref u.1)):=el
  refine ⟨_,rfl,a,_,0,_,rfl,rfl,SqT.of ea,rfl,rfl,_,rfl,?_⟩
  rw[decide_eq_true (rfl:V.str "shares" = V.str "shares")]
  refine aS ⟨_,rfl,a,_,1,_,rfl,rfl,SqT.of ea,rfl,l,_,rfl,.inl ⟨SqL.of el,λo1 ho1=>⟨(by show 2<=wo;decide),λo2 ho2 =>?_⟩⟩⟩
  have s1:=ab ho1 (.tup (us.map λu=>V.ref u.1))
  have s2:=ab ho2 (.tup [.str "shares",.ref o1])
  exact q o2 _ (s1.trans s2) ⟨o1,ae,us,s2 _ _ ae,λu hu=>⟨s2 _ _ (s1 _ _ (tu u hu).1),s2 _ _ (s1 _ _ (tu u hu).2.1),(tu u hu).2.2⟩,ers,lus⟩
 | part v x y =>
  obtain ⟨n',i1,i2,rfl,ea,hx,hy⟩:=tr0
  refine ⟨_,rfl,a,_,0,_,rfl,rfl,SqT.of ea,rfl,rfl,_,rfl,?_⟩
  rw[decide_eq_false (λz=>oN (V.str.inj z))]
  refine aT ⟨_,rfl,a,_,0,_,rfl,rfl,SqT.of ea,rfl,rfl,_,rfl,?_⟩
  rw[decide_eq_true (rfl:V.str "part" = V.str "part")]
  refine aS ⟨_,rfl,a,_,1,_,rfl,rfl,SqT.of ea,rfl,_,rfl,a,_,2,_,rfl,rfl,SqT.of ea,rfl,cU.mpr ⟨i1,x,rfl,hx,λa1 H1 s1 h1 =>?_⟩⟩
  refine ⟨_,rfl,a,_,3,_,rfl,rfl,SqT.of (s1 _ _ ea),rfl,cU.mpr ⟨i2,y,rfl,hy.same s1,λa2 H2 s2 h2=>⟨(by show 4<=wo;decide),λo ho=>q o _ (s1.trans (s2.trans (ab ho _))) ⟨n',a1,a2,rfl,ae,(h1.same s2).same (ab ho _),h2.same (ab ho _)⟩⟩⟩⟩
end
open PySem L2
abbrev oY:Sp:=λvs H Q _=>∃(p:Addr),vs=[.ref p]/\Pt 1 H p/\∀(o r wa a:Addr) (m:Nat) (ts:List (Addr×List Int)) (ws:List Int) (tr:Tr) (H':Hp),Bu 1 p H H'->H' o=some (.tup [.ref r,.ref wa,.ref a])->Wb H' r m ts->m<=40->H' wa=some (.lst (ws.map V.int))->ws.length=m->bK true H' 40 a tr->Q (.ref o) H'
@[irreducible] def ly:Sp:=oY
theorem gi {vs:List V}{H:Hp}{Q:VK}{E:XK}:ly vs H Q E↔oY vs H Q E:=by
 delta ly
 exact yH
section
variable  {P:wL}{w:xg}{K:wc}{mg:Str->Option wm}{base:Heap}{f T:Addr}{fd:xB}
theorem cx:aO ["pot", "many", "web", "weights", "begin", "order", "at", "tree", "place"] ["pot"] (aB nM):=⟨rfl,rfl,rfl,by decide +kernel,rfl,by decide +kernel,by decide +kernel⟩
theorem jB:(["k", "many"]:List Str).Nodup:=by decide +kernel
theorem jO:(["k", "pot"]:List Str).Nodup:=by decide +kernel
theorem fq:(["k", "begin", "many"]:List Str).Nodup:=by decide +kernel
theorem t6 (F:Fun K "_law_deep" "_law_deep" nM f fd)(B:Blt mg)(cLTake:Cal P w K mg base 1 "_law_take" ["pot", "many"] cC):bF P w K mg base CX0 2 f fd ["pot"] ly:=by
 refine F.ok cx (λvs H Q E h =>?_) (λcdv A outer s H vs Q E hr h =>?_)
 ·obtain ⟨_,rfl,_⟩:=gi.mp h
  rfl
 obtain ⟨p,rfl,hp,q⟩:=gi.mp h
 refine ⟨_,(@ah _ _ _ _ _ (@aH _ _ 1 _ _ _ _ cx.nd rfl (Or.inr rfl) (@aE _ _ _ _ _ _ _ _ bh ag (aq cLTake hr (by decide) rfl (@aa _ _ _ _ _ (pv 0) (@aa _ _ _ _ _ ag af rfl) rfl))) rfl (by first | exact .inl rfl | exact .inr rfl | assumption))
  (@ah _ _ _ _ _ (@aH _ _ 2 _ _ _ _ cx.nd rfl (Or.inl rfl) (@aQ _ _ _ _ _ (@aa _ _ _ _ _ (pv 1) (@aa _ _ _ _ _ (bb cj rfl B.b_tuple da (@aa _ _ _ _ _ (ao gu rfl B.b_sorted kn (@aa _ _ _ _ _ (bD ["k", "many"] [none,some 1] rfl (bz rfl B.b_range (@aa _ _ _ _ _ (pv 1) af rfl)) rfl (λ_ _ _ _ _=>(aD (i:=0) jB rfl (Or.inl rfl))) (λ_ _ _ _ _=>bQ) (λ_ _ _ _ _=>(@aQ _ _ _ _ _ (@aa _ _ _ _ _ (ao (cS rfl) rfl B.b_min dZ (@aa _ _ _ _ _ (pv 0) (@aa _ _ _ _ _ (@aE _ _ _ _ _ _ _ _ dN (@aE _ _ _ _ _ _ _ _ bh (pv 0) ag) (pv 1)) af rfl) rfl)) (@aa _ _ _ _ _ (ao (fv rfl) rfl B.b_max js (@aa _ _ _ _ _ (pv 0) (@aa _ _ _ _ _ (@aE _ _ _ _ _ _ _ _ dN (@aE _ _ _ _ _ _ _ _ bh (pv 0) ag) (pv 1)) af rfl) rfl)) af rfl) rfl)))) af rfl)) af rfl)) af rfl) rfl)) rfl (by first | exact .inl rfl | exact .inr rfl | assumption))
  (@ah _ _ _ _ _ (cA (i:=3) ["k", "pot"] [none,some 0] rfl cx.nd rfl rfl (bz rfl B.b_range (@aa _ _ _ _ _ (pv 1) af rfl)) rfl (λ_ _ _ _ _=>(aD (i:=0) jO rfl (Or.inl rfl))) (λ_ _ _ _ _=>bQ) (λ_ _ _ _ _=>(@aE _ _ _ _ _ _ _ _ bh ag (aq cLTake hr (by decide) rfl (@aa _ _ _ _ _ (pv 1) (@aa _ _ _ _ _ ag af rfl) rfl)))))
  (@ah _ _ _ _ _ (@aH _ _ 4 _ _ _ _ cx.nd rfl (Or.inr rfl) (aq cLTake hr (by decide) rfl (@aa _ _ _ _ _ (pv 0) (@aa _ _ _ _ _ (pv 1) af rfl) rfl)) rfl (by first | exact .inl rfl | exact .inr rfl | assumption))
  (@ah _ _ _ _ _ (cA (i:=5) ["k", "begin", "many"] [none,some 4,some 1] rfl cx.nd rfl rfl (bz rfl B.b_range (@aa _ _ _ _ _ (pv 1) af rfl)) rfl (λ_ _ _ _ _=>(aD (i:=0) fq rfl (Or.inl rfl))) (λ_ _ _ _ _=>bQ) (λ_ _ _ _ _=>(@aE _ _ _ _ _ _ _ _ dN (@aE _ _ _ _ _ _ _ _ bh (pv 1) (pv 0)) (pv 2))))
  (@ah _ _ _ _ _ (@aH _ _ 6 _ _ _ _ cx.nd rfl (Or.inl rfl) (aq cLTake hr (by decide) rfl (@aa _ _ _ _ _ (pv 0) (@aa _ _ _ _ _ (@aE _ _ _ _ _ _ _ _ gM ag (pv 1)) af rfl) rfl)) rfl (by first | exact .inl rfl | exact .inr rfl | assumption))
  (@ah _ _ _ _ _ (@aN _ _ _ _ _ _ _ _ (aj eF (pv 6) (pv 1) (ax _)) (@ai _ _ _ (@iQ _ _ _ _ _ _ (@ay _ _ _ _ _ _ _ bC (pv 5) ag (λ_ _=>rfl)) (mN (pv 5) (pv 6) set_list) rfl rfl rfl)) az)
  (@ah _ _ _ _ _ (@aH _ _ 7 _ _ _ _ cx.nd rfl (Or.inl rfl) (@aQ _ _ _ _ _ (@aa _ _ _ _ _ aV (@aa _ _ _ _ _ (bb (l8 hr.hd) rfl B.b_tuple da (@aa _ _ _ _ _ (bb ip rfl B.b_range me (@aa _ _ _ _ _ (pv 1) af rfl)) af rfl)) af rfl) rfl)) rfl (by first | exact .inl rfl | exact .inr rfl | assumption))
  (@ah _ _ _ _ _ (@aN _ _ _ _ _ _ _ _ (aj bo (aq cLTake hr (by decide) rfl (@aa _ _ _ _ _ (pv 0) (@aa _ _ _ _ _ ag af rfl) rfl)) ag (ax _)) (@ai _ _ _ (@aH _ _ 7 _ _ _ _ cx.nd rfl (Or.inl rfl) (@aQ _ _ _ _ _ (@aa _ _ _ _ _ aV (@aa _ _ _ _ _ (@aI _ _ _ _ af) af rfl) rfl)) rfl (by first | exact .inl rfl | exact .inr rfl | assumption))) az)
  (@ah _ _ _ _ _ (@cv _ _ _ _ _ _ _ _ xN rfl (vf rfl B.b_reversed (pv 5)) (aD (i:=8) cx.nd rfl (Or.inl rfl))
   (@ai _ _ _ (@aH _ _ 7 _ _ _ _ cx.nd rfl (Or.inl rfl) (@aQ _ _ _ _ _ (@aa _ _ _ _ _ aV (@aa _ _ _ _ _ (pv 8) (@aa _ _ _ _ _ (@aQ _ _ _ _ _ (@aa _ _ _ _ _ aV (@aa _ _ _ _ _ (@aI _ _ _ _ af) af rfl) rfl)) (@aa _ _ _ _ _ (pv 7) af rfl) rfl) rfl) rfl)) rfl (by first | exact .inl rfl | exact .inr rfl | assumption))) (λ_=>rfl))
  (@ai _ _ _ (@au _ _ _ _ (@aQ _ _ _ _ _ (@aa _ _ _ _ _ (pv 2) (@aa _ _ _ _ _ (pv 3) (@aa _ _ _ _ _ (pv 7) af rfl) rfl) rfl)))))))))))))),?_⟩
 refine ⟨_,rfl,aA.mpr ⟨p,29,rfl,hp,aG (by decide) (by decide),λd H1 d0 d1 b1=>⟨_,_,rfl,rfl,?_⟩⟩⟩
 obtain ⟨m,em⟩:∃m:Nat,12+d=m:=⟨(12+d).toNat,by lia⟩
 have m12:12<=m:=by lia
 have m40:m<=40:=by lia
 have mi:(m:Int).toNat=m:=by lia
 dsimp only
 rw[em]
 let W0:Nat->List V->Hp->Prop:=λi ys H'=>aK H1 H'/\∃us:List (Addr×List Int),ys=us.map (λu =>.ref u.1)/\Tus H' us/\(∀u∈us,∃a b:Int,u.2=[a,b]/\0<=a/\a<=b/\b<m)/\us.length=i
 refine ⟨_,rfl,_,rfl,(m:Int),rfl,by lia,by lia,bI W0 ⟨aK.refl _,[],rfl,(λu h=>nomatch h),(λu h=>nomatch h),rfl⟩ (aU (by lia)) ?_ ?_⟩
 ·rintro i ys H2 hi _ ⟨s2,us,rfl,tu,pu,lu⟩ R1 R0 r1 r0
  rw[B2]
  have md:(0:Int)<(m:Int):=by lia
  have x0:=AK ((i:Int)+1) (b:=(m:Int)) (by lia)
  have x1:=Af ((i:Int)+1) (b:=(m:Int)) (by lia)
  refine aS ⟨_,rfl,_,rfl,_,_,rfl,rfl,_,rfl,_,_,rfl,rfl,md,_,_,rfl,_,rfl,_,rfl,_,_,rfl,rfl,_,rfl,_,_,rfl,rfl,md,_,_,rfl,(by show 2<=wo;decide),λt ht=>r1 _ _ ⟨s2.trans (ab ht _),us++[(t,[if ((i:Int)+1)%((m:Int))<i then ((i:Int)+1)%((m:Int)) else i,if ((i:Int)+1)%((m:Int))>i then ((i:Int)+1)%((m:Int)) else i])],by rw[wB];rfl,(tu.same (ab ht _)).snoc ae,λu hu =>?_,by rw[wj,lu];rfl⟩⟩
  rcases wC.mp hu with z | z
  ·exact pu u z
  ·rw[wx.mp z]
   generalize ((i:Int)+1)%((m:Int))=y at x0 x1
   exact ⟨_,_,rfl,by split <;> lia,by split <;> split <;> lia,by split <;> lia⟩
 rintro ys H2 _ ⟨s2,us0,rfl,tu0,pu0,lu0⟩ c0 hc0
 have g3:=ab hc0 (.lst (us0.map λu=>V.ref u.1))
 refine ⟨c0,us0,rfl,.inl (SqL.of ae),λt ht=>⟨SqT.of ((tu0.same g3) t ht),λz =>?_⟩,λl2 ts hl2 pm _=>⟨l2,_,rfl,.inl ⟨SqL.of ae,λl3 hl3=>⟨(by show 2<=wo;decide),λr hr =>?_⟩⟩⟩⟩
 ·obtain ⟨a,b,e,_⟩:=pu0 t ht
  rw[e] at z;cases z
 have v1:=ab hl2 (.lst (ts.map λt=>V.ref t.1))
 have v2:=ab hl3 (.tup (ts.map λt=>V.ref t.1))
 have v3:=ab hr (.tup [.int m,.ref l3])
 have W:Wb (upd (upd (upd (upd H2 c0 (.lst (us0.map λu=>V.ref u.1))) l2 (.lst (ts.map λt=>V.ref t.1))) l3 (.tup (ts.map λt=>V.ref t.1))) r (.tup [.int m,.ref l3])) r m ts:=⟨⟨l3,ae,v3 _ _ ae⟩,λu hu=>v3 _ _ (v2 _ _ (v1 _ _ ((tu0.same g3) u (pm.mem_iff.mp hu)))),λu hu=>pu0 u (pm.mem_iff.mp hu),by rw[pm.length_eq];lia⟩
 have b3:=b1.same (s2.trans (g3.trans (v1.trans (v2.trans v3))))
 generalize upd (upd (upd (upd H2 c0 (.lst (us0.map λu=>V.ref u.1))) l2 (.lst (ts.map λt=>V.ref t.1))) l3 (.tup (ts.map λt=>V.ref t.1))) r (.tup [.int m,.ref l3])=H3 at W b3
 refine ⟨_,rfl,(m:Int),rfl,by lia,by lia,bI (λi ys H'=>Bu 1 p H3 H'/\∃ws:List Int,ys=ws.map V.int/\ws.length=i) ⟨Bu.refl b3.pot,[],rfl,rfl⟩ (aU (by lia)) ?_ ?_⟩
 ·rintro i ys H4 hi _ ⟨b4,ws,rfl,lw⟩ R1 R0 r1 r0
  refine aS ⟨_,rfl,(aA (E:=E0)).mpr ⟨p,9,rfl,b4.pot,aG (by decide) (by decide),λx H5 x0 x1 b5=>⟨_,_,rfl,rfl,r1 _ _ ⟨b4.trans b5,ws++[1+x],by rw[wB];rfl,by rw[wj,lw];rfl⟩⟩⟩⟩
 rintro ys H4 _ ⟨b4,ws,rfl,lw⟩ wa hwa
 rw[mi] at lw
 have nwa:=bq b4.pot hwa
 have g5:=ab hwa (.lst (ws.map V.int))
 have b5:=(b3.trans b4).same g5
 have ew5:upd H4 wa (.lst (ws.map V.int)) wa=some (.lst (ws.map V.int)):=ae
 have W5:=(W.bu b4 b3.pot).same g5
 generalize upd H4 wa (.lst (ws.map V.int))=H5 at g5 b5 ew5 W5
 refine ⟨_,rfl,_,rfl,aA.mpr ⟨p,(m:Int),rfl,b5.pot,aG (by lia) (by lia),λbg H6 f0 f1 b6' =>?_⟩⟩
 have b6:=b5.trans b6'
 have ew6:=b6'.st _ _ nwa ew5
 have W6:=W5.bu b6' b5.pot
 refine ⟨_,rfl,(m:Int),rfl,by lia,by lia,bI (λi ys H'=>H'=H6/\∃O:List Int,ys=O.map V.int/\O.length=i) ⟨rfl,[],rfl,rfl⟩ (aU (by lia)) ?_ ?_⟩
 ·rintro i ys H7 hi _ ⟨rfl,O,rfl,lO⟩ R1 R0 r1 r0
  refine aS ⟨_,rfl,_,rfl,_,_,rfl,rfl,_,rfl,_,_,rfl,rfl,(by show (0:Int)<m;lia),r1 _ _ ⟨rfl,O++[_],by rw[wB];rfl,by rw[wj,lO];rfl⟩⟩
 rintro ys H7 _ ⟨rfl,O0,rfl,lO0⟩ oa hoa
 rw[mi] at lO0
 have noa:=bq b6.pot hoa
 have hoa0:=sd b6 hoa noa
 have now:oa≠wa:=λz=>by rw[z,ew6] at hoa;cases hoa
 have g8:=ab hoa (.lst (O0.map V.int))
 have b8:=b6.same g8
 have ew8:=g8 _ _ ew6
 have W8:=W6.same g8
 have eo8:upd H7 oa (.lst (O0.map V.int)) oa=some (.lst (O0.map V.int)):=ae
 generalize upd H7 oa (.lst (O0.map V.int))=H8 at g8 b8 ew8 W8 eo8
 refine ⟨_,rfl,_,rfl,_,_,rfl,rfl,.inl ⟨by decide,by decide⟩,aA.mpr ⟨p,2*(m:Int),rfl,b8.pot,aG (by lia) (by lia),λat' H9 k0 k1 b9' =>?_⟩⟩
 have b9:=b8.trans b9'
 have ew9:=b9'.st _ _ nwa ew8
 have W9:=W8.bu b9' b8.pot
 have eo9:=b9'.st _ _ noa eo8
 refine ⟨_,rfl,_,rfl,_,_,rfl,rfl,_,rfl,hJ (λσ H'=>σ=[some (.ref p),some (.int m),some (.ref r),some (.ref wa),some (.int bg),some (.ref oa),some (.int at'),none,none]/\Bu 1 p H H'/\H' wa=some (.lst (ws.map V.int))/\Wb H' r m ts/\∃O:List Int,H' oa=some (.lst (O.map V.int))/\O.length=m) ?_ (λhP z =>?_) λz=>⟨rfl,b9,ew9,W9,O0,eo9,lO0⟩⟩
 case refine_2 =>
  have za:at'<m:=of_decide_eq_true z
  obtain ⟨n,rfl⟩:∃n:Nat,at'=n:=⟨at'.toNat,by lia⟩
  refine ⟨_,rfl,oa,_,0,_,rfl,rfl,SqL.of eo9,iz (n:=0) (by lia),_,rfl,_,rfl,oa,_,(n:Int),n,rfl,rfl,eo9,(by unfold ixN;rw[if_pos (by lia),if_pos (by rw[wd];lia)];rfl),hP _ _ ⟨rfl,b9.dW hoa0 noa _,by rw[aF now.symm];exact ew9,W9.tp λc u h=>by rw[aF (jP h eo9 nofun)];exact h,O0.set n (O0.getD 0 0),by rw[ae,C4],by rw[AG];exact lO0⟩⟩
 rintro σ H10 ⟨rfl,b10,ew10,W10,O,eo10,lO⟩
 refine ⟨_,rfl,(m:Int),rfl,λg1 hg1 =>?_⟩
 have s11:=ab hg1 (.rng 0 m)
 refine ⟨g1,m,rfl,ae,by lia,λl1 hl1=>⟨(by show 2<=wo;decide),λo1 ho1 =>?_⟩⟩
 have s12:=s11.trans ((ab hl1 (.tup ((xE m).map λi=>V.int (i:Nat)))).trans (ab ho1 (.tup [.str "ring",.ref l1])))
 have it12:bK true (upd (upd (upd H10 g1 (.rng 0 m)) l1 (.tup ((xE m).map λi=>V.int (i:Nat)))) o1 (.tup [.str "ring",.ref l1])) 0 o1 (.ring (rgI m)):=⟨l1,ae,by rw[(ab ho1 (.tup [.str "ring",.ref l1])) _ _ ae,rgI,DL];rfl,by rw[rgI,wd,yG];lia⟩
 have b12:=b10.same s12
 have ew12:=s12 _ _ ew10
 have W12:=W10.same s12
 have eo12:=s12 _ _ eo10
 generalize upd (upd (upd H10 g1 (.rng 0 m)) l1 (.tup ((xE m).map λi=>V.int (i:Nat)))) o1 (.tup [.str "ring",.ref l1])=H12 at s12 it12 b12 ew12 W12 eo12
 refine ⟨_,rfl,aA.mpr ⟨p,3,rfl,b12.pot,aG (by decide) (by decide),λd3 H13 u0 u1 b13'=>⟨rfl,_,rfl,?_⟩⟩⟩
 have b13:=b12.trans b13'
 have ew13:=b13'.st _ _ nwa ew12
 have W13:=W12.bu b13' b12.pot
 have eo13:=b13'.st _ _ noa eo12
 have it13:=it12.bu b13' b12.pot
 refine hJ (λσ H'=>∃(a:Addr) (tr:Tr),σ=[some (.ref p),some (.int m),some (.ref r),some (.ref wa),some (.int bg),some (.ref oa),some (.int at'),some (.ref a),none]/\Bu 1 p H H'/\H' wa=some (.lst (ws.map V.int))/\Wb H' r m ts/\H' oa=some (.lst (O.map V.int))/\bK true H' 0 a tr) ?_ (λhP z =>?_) λz=>⟨_,_,rfl,b13,ew13,W13,eo13,it13⟩
 case refine_2 =>
  refine ⟨(by show 0<=wo;decide),λl4 hl4=>⟨(by show 2<=wo;decide),λo4 ho4 =>?_⟩⟩
  have s14:=(ab hl4 (.lst [])).trans (ab ho4 (.tup [.str "shares",.ref l4]))
  exact hP _ _ ⟨o4,.rows [],rfl,b13.same s14,s14 _ _ ew13,W13.same s14,s14 _ _ eo13,l4,ae,[],(ab ho4 _) _ _ ae,(λu h=>nomatch h),rfl,by decide⟩
 rintro σ H14 ⟨a0,tr0,rfl,b14,ew14,W14,eo14,it14⟩
 refine ⟨_,rfl,oa,_,rfl,SqL.of eo14,tL (xs:=O.map V.int) (λi σ H'=>∃(a:Addr) (tr:Tr),(∃c8,σ=[some (.ref p),some (.int m),some (.ref r),some (.ref wa),some (.int bg),some (.ref oa),some (.int at'),some (.ref a),c8])/\aK H14 H'/\bK true H' i a tr) ⟨a0,tr0,⟨_,rfl⟩,aK.refl _,it14⟩ (λi σ H' _ h=>by obtain ⟨_,_,_,s',_⟩:=h;exact SqL.of (s' _ _ eo14)) ?_ ?_⟩
 ·rintro i x σ H15 hx ⟨a,tr,⟨c8,rfl⟩,s15,it15⟩
  rw[<- Di] at hx
  obtain ⟨v,ev,rfl⟩:=iu hx
  refine ⟨_,rfl,(by show 0<=wo;decide),λl6 hl6=>⟨(by show 2<=wo;decide),λo6 ho6=>⟨_,rfl,(by show 4<=wo;decide),λo7 ho7 =>?_⟩⟩⟩
  have t1:=ab hl6 (.lst [])
  have t2:=ab ho6 (.tup [.str "shares",.ref l6])
  have t3:=ab ho7 (.tup [.str "part",.int v,.ref o6,.ref a])
  exact ⟨o7,.part v (.rows []) tr,⟨_,rfl⟩,s15.trans (t1.trans (t2.trans t3)),i,o6,a,rfl,ae,⟨l6,t3 _ _ ae,[],t3 _ _ (t2 _ _ ae),(λu h=>nomatch h),rfl,by decide⟩,((it15.same t1).same t2).same t3⟩
 ·rintro σ H15 ⟨a,tr,⟨c8,rfl⟩,s15,it15⟩
  rw[wd,lO] at it15
  exact ⟨_,rfl,_,rfl,_,rfl,(by show 3<=wo;decide),λo8 ho8=>q o8 r wa a m ts ws tr _ ((b14.same s15).same (ab ho8 _)) ae ((W14.same s15).same (ab ho8 _)) m40 ((ab ho8 _) _ _ (s15 _ _ ew14)) lw ((it15.mono m40).same (ab ho8 _))⟩
end
open PySem L2
def mJ (K:wc):Sp:=λvs H Q _=>∃(a:Addr) (ns:List Int),vs=[.ref a]/\SqL K H a (ns.map V.int)/\ns.length<=63/\∀H',Q (.bl true) H'
theorem kv {K:wc}{vs:List V}{H:Hp}{Q:VK}{E:XK}:mJ K vs H Q E↔∃(a:Addr) (ns:List Int),vs=[.ref a]/\SqL K H a (ns.map V.int)/\ns.length<=63/\∀H',Q (.bl true) H':=yH
theorem jC {K:wc}{H:Hp}{n:Nat}:∀ns:List Int,Paired (EqS K H n) (ns.map V.int) (ns.map V.int)
 | [] =>.nil
 | i :: ns =>.cons (iM i) (jC ns)
theorem fH {K:wc}{H:Hp}{n:Nat}{a b:Addr}{xs ys:List V}(ha:H a=some (.tup xs))(hb:H b=some (.tup ys))(p:Paired (EqS K H n) xs ys):EqS K H (n+1) (.ref a) (.ref b) :=.inr (.inr (.inr ⟨a,b,xs,ys,rfl,rfl,.inl ⟨SqT.of ha,SqT.of hb⟩,p⟩))
theorem lC {K:wc}{H:Hp}{n:Nat}:∀x:Option MnR.Rs,Paired (EqS K H n) (itL x) (itL x)
 | none =>.nil
 | some none =>.cons (dq _) .nil
 | some (some i) =>.cons (dq _) (.cons (iM i) .nil)
theorem mK {K:wc}{H:Hp}{n:Nat}:∀{us vs:List RU},us.map (·.2.2)=vs.map (·.2.2)->(∀u∈us,bj H u)->(∀u∈vs,bj H u)->Paired (EqS K H (n+2)) (us.map λu=>V.ref u.1) (vs.map λu=>V.ref u.1)
 | [],[],_,_,_ =>.nil
 | [],_ :: _,e,_,_=>by cases e
 | _ :: _,[],e,_,_=>by cases e
 | u :: us,v :: vs,e,h1,h2=>by
  rw[xv,xv] at e
  injection e with e1 e2
  obtain ⟨a1,a2,a3⟩:=h1 u wY
  obtain ⟨c1,c2,c3⟩:=h2 v wY
  rw[<- e1] at c1 c2
  exact .cons (fH a1 c1 (.cons (fH a2 c2 (jC _)) (.cons (iM _) .nil))) (mK e2 (λw hw=>h1 w (xf _ hw)) λw hw=>h2 w (xf _ hw))
theorem vk {K:wc}{H:Hp}(d:Nat):∀{t:Tr} {n:Nat} {a b:Addr},bK false H n a t->bK false H n b t->∃xs ys,H a=some (.tup xs)/\H b=some (.tup ys)/\Paired (EqS K H (d+n+3)) xs ys
 | .ring Z,n,a,b,h1,h2=>by
  obtain ⟨p,e1,e2,_⟩:=h1
  obtain ⟨q,f1,f2,_⟩:=h2
  exact ⟨_,_,e1,f1,.cons (dq _) (.cons (fH e2 f2 (jC _)) .nil)⟩
 | .rows rs,n,a,b,h1,h2=>by
  obtain ⟨p,e1,us,e2,tu,eu,_⟩:=h1
  obtain ⟨q,f1,vs,f2,tv,ev,_⟩:=h2
  exact ⟨_,_,e1,f1,.cons (dq _) (.cons (fH e2 f2 (mK (eu.trans ev.symm) tu tv)) .nil)⟩
 | .part v x y,n,a,b,h1,h2=>by
  obtain ⟨k,p,p',rfl,e1,hx,hy⟩:=h1
  obtain ⟨k',q,q',ek,f1,gx,gy⟩:=h2
  cases ek
  obtain ⟨xs,ys,a1,a2,a3⟩:=vk (K:=K) d hx gx
  obtain ⟨zs,ws,c1,c2,c3⟩:=vk (K:=K) d hy gy
  exact ⟨_,_,e1,f1,.cons (dq _) (.cons (iM _) (.cons (fH a1 a2 a3) (.cons (fH c1 c2 c3) .nil)))⟩
section
variable  {P:wL}{w:xg}{K:wc}{mg:Str->Option wm}{base:Heap}{f T:Addr}{fd:xB}
theorem dv:aO ["script", "web", "weights", "tree", "cell", "pot", "kept", "rings", "handed", "due", "copied"] ["script"] (aB qe):=⟨rfl,rfl,rfl,by decide +kernel,rfl,by decide +kernel,by decide +kernel⟩
theorem wb (F:Fun K "law" "law" qe f fd)(B:Blt mg)(cLDeep:Cal P w K mg base 2 "_law_deep" ["pot"] ly)(cLTold:Cal P w K mg base 2 "_law_told" ["found"] lq)(cLShows:Cal P w K mg base 49 "_law_shows" ["web", "weights", "taken", "kept", "tree"] (nR 46))(cLWeb:Cal P w K mg base 2 "_law_web" ["pot", "most"] oS)(cLWeights:Cal P w K mg base 2 "_law_weights" ["pot", "many"] fF)(cLKept:Cal P w K mg base 2 "_law_kept" ["pot", "many"] iI)(cLRings:Cal P w K mg base 3 "_law_rings" ["web"] iJ)(cLGood:Cal P w K mg base 7 "_law_good" ["pot", "web", "weights", "rings", "taken", "kept", "room"] (gg 5))(cLDeal:Cal P w K mg base 1 "_law_deal" ["cell", "many"] lj)(cTreeShows:Cal P w K mg base 52 "tree_shows" ["web", "weights", "kept", "tree"] lh)(cLTake:Cal P w K mg base 1 "_law_take" ["pot", "many"] cC)(cLSpoilt:Cal P w K mg base 8 "_law_spoilt" ["pot", "web", "tree"] (eE 5))(cLTupled:Cal P w K mg base 5 "_law_tupled" ["tree"] (jA 5)):bF P w K mg base CX0 53 f fd ["script"] (mJ K):=by
 refine F.ok dv (λvs H Q E h =>?_) (λcdv A outer s H vs Q E hr h =>?_)
 ·obtain ⟨_,_,rfl,_⟩:=kv.mp h
  rfl
 obtain ⟨a,ns,rfl,hS,h63,q⟩:=kv.mp h
 refine ⟨_,(@ah _ _ _ _ _ (@iQ _ _ _ _ _ _ (aq cLDeep hr (by decide) rfl (@aa _ _ _ _ _ (@aI _ _ _ _ (@aa _ _ _ _ _ (aq cLDeal hr (by decide) rfl (@aa _ _ _ _ _ (ao (qd hr.hd) rfl B.b_sum jt (@aa _ _ _ _ _ (pv 0) af rfl)) (@aa _ _ _ _ _ ag af rfl) rfl)) af rfl)) af rfl)) (gL rfl (bH (aD (i:=1) dv.nd rfl (Or.inl rfl)) (bH (aD (i:=2) dv.nd rfl (Or.inl rfl)) (bH (aD (i:=3) dv.nd rfl (Or.inl rfl)) fu)))) rfl rfl rfl)
  (@ah _ _ _ _ _ (@aN _ _ _ _ _ _ _ _ (aj (kQ hr) (aq cLTold hr (by decide) rfl (@aa _ _ _ _ _ (aq cTreeShows hr (by decide) rfl (@aa _ _ _ _ _ (pv 1) (@aa _ _ _ _ _ (pv 2) (@aa _ _ _ _ _ (@aQ _ _ _ _ _ af) (@aa _ _ _ _ _ (pv 3) af rfl) rfl) rfl) rfl)) af rfl)) (aq cLShows hr (by decide) rfl (@aa _ _ _ _ _ (pv 1) (@aa _ _ _ _ _ (pv 2) (@aa _ _ _ _ _ (@aI _ _ _ _ af) (@aa _ _ _ _ _ (@aI _ _ _ _ af) (@aa _ _ _ _ _ (pv 3) af rfl) rfl) rfl) rfl) rfl)) (ax _)) gK az)
  (@ah _ _ _ _ _ (@cv _ _ _ _ _ _ _ _ xN rfl (@cI _ _ _ _ (@aE _ _ _ _ _ _ _ _ bY (bB cJ (pv 0) bU (bV ag)) (@aI _ _ _ _ (@aa _ _ _ _ _ ag af rfl)))) (aD (i:=4) dv.nd rfl (Or.inl rfl))
   (@ah _ _ _ _ _ (@aH _ _ 5 _ _ _ _ dv.nd rfl (Or.inl rfl) (@aI _ _ _ _ (@aa _ _ _ _ _ (aq cLDeal hr (by decide) rfl (@aa _ _ _ _ _ (pv 4) (@aa _ _ _ _ _ ag af rfl) rfl)) af rfl)) rfl (by first | exact .inl rfl | exact .inr rfl | assumption))
   (@ah _ _ _ _ _ (@aH _ _ 1 _ _ _ _ dv.nd rfl (Or.inl rfl) (aq cLWeb hr (by decide) rfl (@aa _ _ _ _ _ (pv 5) (@aa _ _ _ _ _ ag af rfl) rfl)) rfl (by first | exact .inl rfl | exact .inr rfl | assumption))
   (@ah _ _ _ _ _ (@aH _ _ 2 _ _ _ _ dv.nd rfl (Or.inl rfl) (aq cLWeights hr (by decide) rfl (@aa _ _ _ _ _ (pv 5) (@aa _ _ _ _ _ (@ay _ _ _ _ _ _ _ av (pv 1) ag (λ_ _=>rfl)) af rfl) rfl)) rfl (by first | exact .inl rfl | exact .inr rfl | assumption))
   (@ah _ _ _ _ _ (@aH _ _ 6 _ _ _ _ dv.nd rfl (Or.inl rfl) (aq cLKept hr (by decide) rfl (@aa _ _ _ _ _ (pv 5) (@aa _ _ _ _ _ (@ay _ _ _ _ _ _ _ av (pv 1) ag (λ_ _=>rfl)) af rfl) rfl)) rfl (by first | exact .inl rfl | exact .inr rfl | assumption))
   (@ah _ _ _ _ _ (@aH _ _ 7 _ _ _ _ dv.nd rfl (Or.inl rfl) (aq cLRings hr (by decide) rfl (@aa _ _ _ _ _ (pv 1) af rfl)) rfl (by first | exact .inl rfl | exact .inr rfl | assumption))
   (@ah _ _ _ _ _ (@aH _ _ 3 _ _ _ _ dv.nd rfl (Or.inl rfl) (aq cLGood hr (by decide) rfl (@aa _ _ _ _ _ (pv 5) (@aa _ _ _ _ _ (pv 1) (@aa _ _ _ _ _ (pv 2) (@aa _ _ _ _ _ (pv 7) (@aa _ _ _ _ _ (@aI _ _ _ _ af) (@aa _ _ _ _ _ (bb cK rfl B.b_list iE (@aa _ _ _ _ _ (pv 6) af rfl)) (@aa _ _ _ _ _ (aq cLTake hr (by decide) rfl (@aa _ _ _ _ _ (pv 5) (@aa _ _ _ _ _ ag af rfl) rfl)) af rfl) rfl) rfl) rfl) rfl) rfl) rfl)) rfl (by first | exact .inl rfl | exact .inr rfl | assumption))
   (@ai _ _ _ (@cv _ _ _ _ _ _ _ _ xN rfl (@cI _ _ _ _ (@aI _ _ _ _ (@aa _ _ _ _ _ (pv 3) (@aa _ _ _ _ _ (aq cLSpoilt hr (by decide) rfl (@aa _ _ _ _ _ (pv 5) (@aa _ _ _ _ _ (pv 1) (@aa _ _ _ _ _ (pv 3) af rfl) rfl) rfl)) (@aa _ _ _ _ _ (pv 3) af rfl) rfl) rfl))) (aD (i:=8) dv.nd rfl (Or.inl rfl))
    (@ah _ _ _ _ _ (@aH _ _ 9 _ _ _ _ dv.nd rfl (Or.inl rfl) (aq cLShows hr (by decide) rfl (@aa _ _ _ _ _ (pv 1) (@aa _ _ _ _ _ (pv 2) (@aa _ _ _ _ _ (@aI _ _ _ _ af) (@aa _ _ _ _ _ (bb cK rfl B.b_list iE (@aa _ _ _ _ _ (pv 6) af rfl)) (@aa _ _ _ _ _ (pv 8) af rfl) rfl) rfl) rfl) rfl)) rfl (by first | exact .inl rfl | exact .inr rfl | assumption))
    (@ah _ _ _ _ _ (@aH _ _ 10 _ _ _ _ dv.nd rfl (Or.inl rfl) (aq cLTupled hr (by decide) rfl (@aa _ _ _ _ _ (pv 8) af rfl)) rfl (by first | exact .inl rfl | exact .inr rfl | assumption))
    (@ah _ _ _ _ _ (@aN _ _ _ _ _ _ _ _ (PW.pt (cg (aj (kQ hr) (aq cLTold hr (by decide) rfl (@aa _ _ _ _ _ (aq cTreeShows hr (by decide) rfl (@aa _ _ _ _ _ (pv 1) (@aa _ _ _ _ _ (pv 2) (@aa _ _ _ _ _ (pv 6) (@aa _ _ _ _ _ (pv 8) af rfl) rfl) rfl) rfl)) af rfl)) (pv 9) (ax _)) (cu (aj (tJ hr) (aq cLTupled hr (by decide) rfl (@aa _ _ _ _ _ (pv 8) af rfl)) (pv 10) (ax _))))) gK az)
    (@ai _ _ _ (@aN _ _ _ _ _ _ _ _ (aj (kQ hr) (aq cLTold hr (by decide) rfl (@aa _ _ _ _ _ (aq cTreeShows hr (by decide) rfl (@aa _ _ _ _ _ (pv 1) (@aa _ _ _ _ _ (bb cj rfl B.b_tuple da (@aa _ _ _ _ _ (pv 2) af rfl)) (@aa _ _ _ _ _ (pv 6) (@aa _ _ _ _ _ (pv 10) af rfl) rfl) rfl) rfl)) af rfl)) (pv 9) (ax _)) gK az))))) (λ_=>rfl))))))))) (λ_=>rfl))
  (@ai _ _ _ (@au _ _ _ _ jQ))))),?_⟩
 refine ⟨_,rfl,a,ns,rfl,hS,ef.mpr ⟨ns.sum,12,rfl,by decide,by decide,λdl=>⟨(by show 1<=wo;decide),λp0 hp0 =>?_⟩⟩⟩
 refine gi.mpr ⟨p0,rfl,⟨[dl],rfl,ae⟩,λo r wa ta m ts ws tr H1 b1 eo W m4 ew lw it=>⟨o,_,rfl,SqT.of eo,rfl,_,_,rfl,_,_,rfl,_,_,rfl,rfl,?_⟩⟩
 have s1:aK H H1:=Bu.fresh hp0 b1
 refine ⟨_,rfl,_,rfl,(by show 0<=wo;decide),λk1 hk1 =>?_⟩
 have t1:=ab hk1 (.tup [])
 refine ⟨_,rfl,dg.mpr ⟨r,wa,k1,ta,m,ts,ws,[],true,tr,rfl,W.same t1,by lia,.inl (t1 _ _ ew),lw,ae,by decide,(it.mono (by decide)).same t1,λv H2 s2 hv =>?_⟩⟩
 refine dj.mpr ⟨v,_,rfl,hv,λu H3 s3 hu =>?_⟩
 have t3:=t1.trans (s2.trans s3)
 refine ⟨_,rfl,_,rfl,(by show 0<=wo;decide),λq1 hq1=>⟨(by show 0<=wo;decide),λq2 hq2 =>?_⟩⟩
 have u1:=ab hq1 (.lst [])
 have u2:=ab hq2 (.lst [])
 have t4:=t3.trans (u1.trans u2)
 refine ⟨_,rfl,dM.mpr ⟨r,wa,q1,q2,ta,m,ts,ws,[],[],tr,rfl,W.same t4,by lia,t4 _ _ ew,lw,u2 _ _ ae,(λv h=>nomatch h),by decide,ae,by decide,(it.mono (by decide)).same t4,λv2 H5 s5 hv2 =>?_⟩⟩
 obtain ⟨f1,rfl,ef1⟩:=hu
 obtain ⟨f2,rfl,ef2⟩:=hv2
 have ef1:=s5 _ _ (u2 _ _ (u1 _ _ ef1))
 refine ⟨f1,f2,_,_,rfl,rfl,SqL.of ef1,SqL.of ef2,lC _,_,rfl,aT ?_⟩
 have s6:aK H H5:=s1.trans (t4.trans s5)
 clear ef1 ef2 t4 u1 u2 t3 t1 hk1 hq1 hq2 s2 s3 s5 W it eo ew b1
 refine ⟨_,rfl,8,rfl,a,_,rfl,s6.seq hS,λl0 hl0 =>?_⟩
 obtain ⟨ms,em,lt,_⟩:=p7 ns none (some 8)
 rw[em]
 have g0:=ab hl0 (.lst (ms.map V.int))
 refine ⟨(by show 1<=wo;decide),λl1 hl1=>⟨l0,l1,_,_,rfl,rfl,SqL.of ((ab hl1 _) _ _ ae),SqL.of ae,aU (by rw[wd];show _+1<=_;lia),λl2 hl2 =>?_⟩⟩
 have g1:=g0.trans ((ab hl1 (.lst [.int 0])).trans (ab hl2 (.lst (ms.map V.int++[.int 0]))))
 have el2:upd (upd (upd H5 l0 (.lst (ms.map V.int))) l1 (.lst [.int 0])) l2 (.lst (ms.map V.int++[.int 0])) l2=some (.lst ((ms++[0]).map V.int)):=by rw[ae,wB];rfl
 generalize upd (upd (upd H5 l0 (.lst (ms.map V.int))) l1 (.lst [.int 0])) l2 (.lst (ms.map V.int++[.int 0]))=H6 at g1 el2
 let W0:Nat->St->Hp->Prop:=λi σ H'=>(∃c1 c2 c3 c4 c5 c6 c7 c8 c9 c10,σ=[some (.ref a),c1,c2,c3,c4,c5,c6,c7,c8,c9,c10])/\aK H6 H'
 refine ⟨l2,rfl,⟨_,SqL.of el2⟩,dE (xs:=(ms++[0]).map V.int) W0 ⟨⟨_,_,_,_,_,_,_,_,_,_,rfl⟩,aK.refl _⟩ (λi σ H' _ h=>SqL.of (h.2 _ _ el2)) ?_ ?_⟩
 case refine_2 =>
  rintro σ H7 ⟨⟨c1,c2,c3,c4,c5,c6,c7,c8,c9,c10,rfl⟩,s7⟩
  exact q _
 rintro i x σ H7 hx ⟨⟨c1,c2,c3,c4,c5,c6,c7,c8,c9,c10,rfl⟩,s7⟩
 obtain ⟨c,ec,rfl⟩:=iu hx
 refine ⟨_,rfl,ef.mpr ⟨c,90,rfl,by decide,by decide,λdl=>⟨(by show 1<=wo;decide),λp hp =>?_⟩⟩⟩
 have pt:Pt 1 (upd H7 p (.lst [.int dl])) p:=⟨[dl],rfl,ae⟩
 refine ⟨_,rfl,hV.mpr ⟨p,5,rfl,pt,by decide,λr m ts H8 b8 W m5 =>?_⟩⟩
 have s8:=Bu.fresh hp b8
 have hw8:∃t,H8 r=some (.tup [.int m,.ref t]):=W.at'.imp λ_ h=>h.1
 obtain ⟨tt,er8⟩:=hw8
 refine ⟨_,rfl,_,rfl,r,_,0,_,rfl,rfl,SqT.of er8,rfl,dz.mpr ⟨p,m,rfl,b8.pot,by lia,λwl ws H9 b9 hwl nwl ew lw =>?_⟩⟩
 refine ⟨_,rfl,_,rfl,r,_,0,_,rfl,rfl,SqT.of (b9.tup b8.pot er8),rfl,fh.mpr ⟨p,m,rfl,b9.pot,by lia,λkk Kp H10 b10 ek ak lk =>?_⟩⟩
 have W10:=(W.bu b9 b8.pot).bu b10 b9.pot
 have ew10:=b10.st _ _ nwl ew
 refine ⟨_,rfl,fj.mpr ⟨r,m,ts,rfl,W10,m5,λrl us H11 s11 hrl er tu pu lu =>?_⟩⟩
 have b11:=((b8.trans b9).trans b10).same s11
 have W11:=W10.same s11
 have ew11:=s11 _ _ ew10
 have ek11:=s11 _ _ ek
 refine ⟨_,rfl,_,rfl,_,rfl,_,rfl,(by show 0<=wo;decide),λt0 ht0 =>?_⟩
 have v1:=ab ht0 (.lst [])
 refine ⟨_,rfl,kk,_,rfl,.inr (SqT.of (v1 _ _ ek11)),λk2 hk2 =>?_⟩
 have v2:=v1.trans (ab hk2 (.lst (Kp.map V.int)))
 have et12:=(ab hk2 (.lst (Kp.map V.int))) _ _ (ae (H:=H11) (a:=t0) (o :=.lst []))
 have ek12:upd (upd H11 t0 (.lst [])) k2 (.lst (Kp.map V.int)) k2=some (.lst (Kp.map V.int)):=ae
 have nt0:=bq b11.pot ht0
 have nk2:=bq (b11.pot.same v1) hk2
 generalize upd (upd H11 t0 (.lst [])) k2 (.lst (Kp.map V.int))=H12 at v2 et12 ek12
 have b12:=b11.same v2
 refine ⟨_,rfl,aA.mpr ⟨p,4,rfl,b12.pot,aG (by decide) (by decide),λd H13 d0 d1 b13 =>?_⟩⟩
 obtain ⟨rm,rfl⟩:∃rm:Nat,d=rm:=⟨d.toNat,by lia⟩
 have nrl:=jz b11.pot er
 refine cn.mpr ⟨p,r,wl,rl,t0,k2,m,rm,ts,ws,[],Kp,us,rfl,b13.pot,(W11.same v2).bu b13 b12.pot,by lia,b13.st _ _ nwl (v2 _ _ ew11),nwl,lw,b13.st _ _ nrl (v2 _ _ er),(tu.same v2).bu b13 b12.pot,pu,lu,b13.st _ _ nt0 et12,nt0,by decide,b13.st _ _ nk2 ek12,nk2,by lia,by lia,λta tr H14 b14 it ne =>?_⟩
 have b1114:=(Bu.refl b11.pot).same v2 |>.trans b13 |>.trans b14
 have W14:=W11.bu b1114 b11.pot
 refine ⟨_,rfl,_,rfl,_,rfl,_,rfl,cH.mpr ⟨p,r,ta,m,ts,tr,rfl,b14.pot,W14,by lia,it.mono (by lia),ne,λta2 tr2 H15 b15 it2 =>?_⟩⟩
 have b1115:=b1114.trans b15
 have W15:=W11.bu b1115 b11.pot
 have ew15:=b1115.st _ _ nwl ew11
 have ek15:=b1115.tup b11.pot ek11
 have it15:=(it.mono (by lia:rm<=4)).bu b15 b14.pot
 refine ⟨_,rfl,(by show 3<=wo;decide),λhl hhl =>?_⟩
 have v6:=ab hhl (.lst [.ref ta,.ref ta2,.ref ta])
 have e16:upd H15 hl (.lst [.ref ta,.ref ta2,.ref ta]) hl=some (.lst [.ref ta,.ref ta2,.ref ta]):=ae
 have s16:aK H6 (upd H15 hl (.lst [.ref ta,.ref ta2,.ref ta])):=s7.trans (Bu.fresh hp ((b11.trans b1115).same v6))
 have W16:=W15.same v6
 have ew16:=v6 _ _ ew15
 have ek16:=v6 _ _ ek15
 have tr16:∀x∈[V.ref ta,V.ref ta2,V.ref ta],∃b t,x = .ref b/\bK true (upd H15 hl (.lst [.ref ta,.ref ta2,.ref ta])) 4 b t:=λx hx=>by
  rcases wZ.mp hx with h | h
  ·exact ⟨ta,tr,h,it15.same v6⟩
  rcases wZ.mp h with h | h
  ·exact ⟨ta2,tr2,h,it2.same v6⟩
  ·exact ⟨ta,tr,wx.mp h,it15.same v6⟩
 generalize upd H15 hl (.lst [.ref ta,.ref ta2,.ref ta])=H16 at v6 e16 s16 W16 ew16 ek16 tr16
 let W1:Nat->St->Hp->Prop:=λi σ H'=>(∃c8 c9 c10,σ=[some (.ref a),some (.ref r),some (.ref wl),some (.ref ta),some (.int c),some (.ref p),some (.ref kk),some (.ref rl),c8,c9,c10])/\aK H16 H'
 refine ⟨hl,rfl,⟨_,SqL.of e16⟩,dE (xs:=[V.ref ta,V.ref ta2,V.ref ta]) W1 ⟨⟨_,_,_,rfl⟩,aK.refl _⟩ (λi σ H' _ h=>SqL.of (h.2 _ _ e16)) ?_ ?_⟩
 case refine_2 =>
  rintro σ H17 ⟨⟨c8',c9',c10',rfl⟩,s17⟩
  exact ⟨⟨_,_,_,_,_,_,_,_,_,_,rfl⟩,s16.trans s17⟩
 rintro j x σ H17 hx ⟨⟨c8',c9',c10',rfl⟩,s17⟩
 obtain ⟨hb,t,rfl,it17⟩:=tr16 x (wR hx)
 have it17:=it17.same s17
 have W17:=W16.same s17
 have ew17:=s17 _ _ ew16
 have ek17:=s17 _ _ ek16
 refine ⟨_,rfl,_,rfl,(by show 0<=wo;decide),λt1 ht1 =>?_⟩
 have w1:=ab ht1 (.lst [])
 refine ⟨_,rfl,kk,_,rfl,.inr (SqT.of (w1 _ _ ek17)),λk3 hk3 =>?_⟩
 have w2:=w1.trans (ab hk3 (.lst (Kp.map V.int)))
 have et18:=(ab hk3 (.lst (Kp.map V.int))) _ _ (ae (H:=H17) (a:=t1) (o :=.lst []))
 refine ⟨_,rfl,dM.mpr ⟨r,wl,t1,k3,hb,m,ts,ws,[],Kp,t,rfl,W17.same w2,by lia,w2 _ _ ew17,lw,et18,(λv h=>nomatch h),by decide,ae,by lia,(it17.mono (by decide)).same w2,λv2 H19 s19 hv2 =>?_⟩⟩
 obtain ⟨f2,rfl,ef2⟩:=hv2
 have w3:=w2.trans s19
 refine ⟨_,rfl,cU.mpr ⟨hb,t,rfl,it17.same w3,λcb H20 s20 ic =>?_⟩⟩
 have w4:=w3.trans s20
 have ef20:=s20 _ _ ef2
 refine ⟨_,rfl,_,rfl,_,rfl,_,rfl,dg.mpr ⟨r,wl,kk,hb,m,ts,ws,Kp,true,t,rfl,W17.same w4,by lia,.inl (w4 _ _ ew17),lw,w4 _ _ ek17,by lia,(it17.mono (by decide)).same w4,λv3 H21 s21 hv3 =>?_⟩⟩
 refine dj.mpr ⟨v3,_,rfl,hv3,λu3 H22 s22 hu3 =>?_⟩
 obtain ⟨f3,rfl,ef3⟩:=hu3
 have w5:=s21.trans s22
 refine ⟨_,rfl,f3,f2,_,_,rfl,rfl,SqL.of ef3,SqL.of (w5 _ _ ef20),lC _,_,rfl,aT ?_⟩
 refine ⟨_,rfl,cU.mpr ⟨hb,t,rfl,it17.same (w4.trans w5),λcb2 H23 s23 ic2 =>?_⟩⟩
 have ic23:=(ic.same w5).same s23
 obtain ⟨xs,ys,ex,ey,pr⟩:=vk (K:=K) 13 ic2 ic23
 refine ⟨_,rfl,cb2,cb,xs,ys,rfl,rfl,SqT.of ex,SqT.of ey,pr,_,rfl,aT ?_⟩
 have w6:=w4.trans (w5.trans s23)
 have ef23:=s23 _ _ (w5 _ _ ef20)
 refine ⟨_,rfl,_,rfl,wl,_,rfl,.inl ⟨SqL.of (w6 _ _ ew17),λwt hwt =>?_⟩⟩
 have w7:=w6.trans (ab hwt (.tup (ws.map V.int)))
 refine ⟨_,rfl,_,rfl,dg.mpr ⟨r,wt,kk,cb,m,ts,ws,Kp,false,t,rfl,W17.same w7,by lia,.inr ae,lw,w7 _ _ ek17,by lia,(ic23.mono (by decide)).same (ab hwt _),λv4 H24 s24 hv4 =>?_⟩⟩
 refine dj.mpr ⟨v4,_,rfl,hv4,λu4 H25 s25 hu4 =>?_⟩
 obtain ⟨f4,rfl,ef4⟩:=hu4
 have w8:=(ab hwt (.tup (ws.map V.int))).trans (s24.trans s25)
 exact ⟨_,rfl,f4,f2,_,_,rfl,rfl,SqL.of ef4,SqL.of (w8 _ _ ef23),lC _,_,rfl,aT ⟨⟨_,_,_,rfl⟩,s17.trans (w6.trans w8)⟩⟩
end
open PySem L2
theorem all_mk {l:PySem.W.OpenLaw}{w:xg}{K:wc}{h:Heap}{mg:Str->Option wm}{fa:Addr}(X:K.In h)(G:h.Ns xw mg)(hfa:mg "law" = some (.ref fa))
  (h1:bR K "tie_of" rE) (h2:bR K "tied_times" ji) (h3:bR K "is_ring" kR) (h4:bR K "is_open" kS) (h5:bR K "kept_shows" fT) (h6:bR K "is_share" jj) (h7:bR K "shares_show" fe) (h8:bR K "lesser_shown" dX) (h9:bR K "case_shows" fU) (h10:bR K "tree_shows" fV) (h11:bR K "_law_deal" nF) (h12:bR K "_law_take" nG) (h13:bR K "_law_whole" kT) (h14:bR K "_law_web" rF) (h15:bR K "_law_weights" gY) (h16:bR K "_law_kept" nH) (h17:bR K "_law_times" kU) (h18:bR K "_law_is_ring" jk) (h19:bR K "_law_rings" kW) (h20:bR K "_law_leaf" nI) (h21:bR K "_law_shows" kX) (h22:bR K "_law_rows" nJ) (h23:bR K "_law_good" nK) (h24:bR K "_law_other" kY) (h25:bR K "_law_spoilt_rows" dY) (h26:bR K "_law_spoilt" jl) (h27:bR K "_law_tupled" jm) (h28:bR K "_law_told" nL) (h29:bR K "_law_deep" nM) (h30:bR K "law" qe)
  (y_all:xP K xw "all" = some none) (y_any:xP K xw "any" = some none) (y_bool:xP K xw "bool" = some none) (y_divmod:xP K xw "divmod" = some none) (y_enumerate:xP K xw "enumerate" = some none) (y_int:xP K xw "int" = some none) (y_isinstance:xP K xw "isinstance" = some none) (y_len:xP K xw "len" = some none) (y_list:xP K xw "list" = some none) (y_max:xP K xw "max" = some none) (y_min:xP K xw "min" = some none) (y_range:xP K xw "range" = some none) (y_reversed:xP K xw "reversed" = some none) (y_set:xP K xw "set" = some none) (y_sorted:xP K xw "sorted" = some none) (y_sum:xP K xw "sum" = some none) (y_tuple:xP K xw "tuple" = some none)
  : ∃fd:xB,(∀(s:wu) (v:wm),BindsTo s fd ⟨[v],[]⟩ [("script",v)])/\∀base:Heap,K.In base->base.Ns xw mg->bF l.prog w K mg base CX0 53 fa fd ["script"] (mJ K):=by
 obtain ⟨fl,od,an,sl,oc,kV,dc,pm,cd,ct,al,ll,cl,kl⟩:=h30
 have e:=hfa.symm.trans (Bx X G al)
 cases e
 have F30:=mU ll cl kl
 have z_all:=xr X G y_all
 have z_any:=xr X G y_any
 have z_bool:=xr X G y_bool
 have z_divmod:=xr X G y_divmod
 have z_enumerate:=xr X G y_enumerate
 have z_int:=xr X G y_int
 have z_isinstance:=xr X G y_isinstance
 have z_len:=xr X G y_len
 have z_list:=xr X G y_list
 have z_max:=xr X G y_max
 have z_min:=xr X G y_min
 have z_range:=xr X G y_range
 have z_reversed:=xr X G y_reversed
 have z_set:=xr X G y_set
 have z_sorted:=xr X G y_sorted
 have z_sum:=xr X G y_sum
 have z_tuple:=xr X G y_tuple
 refine ⟨PySem.W.fnOf "law" "law" (cM qe) (cD qe) (aB qe) .none kV dc pm an cd ct,λs v =>.of_eq rfl,λbase kb nb =>?_⟩
 have B:Blt mg:=⟨z_all,z_any,z_bool,z_divmod,z_enumerate,z_int,z_isinstance,z_len,z_list,z_max,z_min,z_range,z_reversed,z_set,z_sorted,z_sum,z_tuple⟩
 have cLTake:=h12.cal l.prog w base X G (λF=>tS F B) λ_ _ _ _ _ _ us hl=>match us,hl with | [_,_],_=>rfl
 have cLDeep:=h29.cal l.prog w base X G (λF=>t6 F B cLTake) λ_ _ _ _ _ _ us hl=>match us,hl with | [_],_=>rfl
 have cLWhole:=h13.cal l.prog w base X G (λF=>sf F B) λ_ _ _ _ _ _ us hl=>match us,hl with | [_],_=>rfl
 have cLTold:=h28.cal l.prog w base X G (λF=>tX F B cLWhole) λ_ _ _ _ _ _ us hl=>match us,hl with | [_],_=>rfl
 have cLTimes:=h17.cal l.prog w base X G (λF=>rS F B) λ_ _ _ _ _ _ us hl=>match us,hl with | [_,_,_],_=>rfl
 have cLIsRing:=h18.cal l.prog w base X G (λF=>ql F B cLTimes) λ_ _ _ _ _ _ us hl=>match us,hl with | [_,_],_=>rfl
 have cLLeaf:=h20.cal l.prog w base X G (λF=>tU F B cLIsRing) λ_ _ _ _ _ _ us hl=>match us,hl with | [_,_,_,_,_],_=>rfl
 have cLShows:=h21.jh l.prog w base X G 3 (λ_ _ _ _=>tV) (λn c=>λF=>r9 F B n c cLLeaf cLIsRing) (λ_ _ _ _ _ _ us hl=>match us,hl with | [_,_,_,_,_],_=>rfl) 46
 have cLWeb:=h14.cal l.prog w base X G (λF=>vh F B cLTake) λ_ _ _ _ _ _ us hl=>match us,hl with | [_,_],_=>rfl
 have cLWeights:=h15.cal l.prog w base X G (λF=>nO F B cLTake) λ_ _ _ _ _ _ us hl=>match us,hl with | [_,_],_=>rfl
 have cLKept:=h16.cal l.prog w base X G (λF=>tT F B cLTake) λ_ _ _ _ _ _ us hl=>match us,hl with | [_,_],_=>rfl
 have cLRings:=h19.cal l.prog w base X G (λF=>rY F B cLIsRing cLTimes) λ_ _ _ _ _ _ us hl=>match us,hl with | [_],_=>rfl
 have cLRows:=h22.cal l.prog w base X G (λF=>tY F B cLTake) λ_ _ _ _ _ _ us hl=>match us,hl with | [_,_,_,_,_],_=>rfl
 have cLGood:=h23.jh l.prog w base X G 2 (λ_ _ _ _=>qq) (λn c=>λF=>tZ F B n c cLTake cLRows) (λ_ _ _ _ _ _ us hl=>match us,hl with | [_,_,_,_,_,_,_],_=>rfl) 5
 have cLDeal:=h11.cal l.prog w base X G (λF=>tR F B) λ_ _ _ _ _ _ us hl=>match us,hl with | [_,_],_=>rfl
 have cLesserShown:=h8.cal l.prog w base X G (λF=>jM F B) λ_ _ _ _ _ _ us hl=>match us,hl with | [_,_],_=>rfl
 have cKeptShows:=h5.cal l.prog w base X G (λF=>mv F B) λ_ _ _ _ _ _ us hl=>match us,hl with | [_,_,_,_],_=>rfl
 have cIsShare:=h6.cal l.prog w base X G (λF=>qi F B) λ_ _ _ _ _ _ us hl=>match us,hl with | [_,_,_,_,_,_],_=>rfl
 have cSharesShow:=h7.cal l.prog w base X G (λF=>k9 F B cIsShare) λ_ _ _ _ _ _ us hl=>match us,hl with | [_,_,_,_,_,_],_=>rfl
 have cIsOpen:=h4.cal l.prog w base X G (λF=>rO F B) λ_ _ _ _ _ _ us hl=>match us,hl with | [_,_,_,_],_=>rfl
 have cCaseShows:=h9.jh l.prog w base X G 5 (λ_ _ _ _=>qj) (λn c=>λF=>my F B n c cLesserShown cKeptShows cSharesShow cIsOpen) (λ_ _ _ _ _ _ us hl=>match us,hl with | [_,_,_,_,_,_,_],_=>rfl) 46
 have cTieOf:=h1.cal l.prog w base X G (λF=>v8 F z_max z_min) λ_ _ _ _ _ _ us hl=>match us,hl with | [_,_],_=>rfl
 have cTiedTimes:=h2.cal l.prog w base X G (λF=>tP F cTieOf) λ_ _ _ _ _ _ us hl=>match us,hl with | [_,_,_],_=>rfl
 have cIsRing:=h3.cal l.prog w base X G (λF=>rM F B cTiedTimes) λ_ _ _ _ _ _ us hl=>match us,hl with | [_,_],_=>rfl
 have cTreeShows:=h10.cal l.prog w base X G (λF=>mC F B cCaseShows cIsRing) λ_ _ _ _ _ _ us hl=>match us,hl with | [_,_,_,_],_=>rfl
 have cLOther:=h24.cal l.prog w base X G (λF=>sg F B cLTake) λ_ _ _ _ _ _ us hl=>match us,hl with | [_,_],_=>rfl
 have cLSpoiltRows:=h25.cal l.prog w base X G (λF=>jN F B cLTake cLOther) λ_ _ _ _ _ _ us hl=>match us,hl with | [_,_],_=>rfl
 have cLSpoilt:=h26.jh l.prog w base X G 3 (λ_ _ _ _=>nU) (λn c=>λF=>qr F B n c cLTake cLOther cLSpoiltRows) (λ_ _ _ _ _ _ us hl=>match us,hl with | [_,_,_],_=>rfl) 5
 have cLTupled:=h27.jh l.prog w base X G 0 (λ_ _ _ _=>sj) (λn c=>λF=>qu F B n c) (λ_ _ _ _ _ _ us hl=>match us,hl with | [_],_=>rfl) 5
 exact wb F30 B cLDeep cLTold cLShows cLWeb cLWeights cLKept cLRings cLGood cLDeal cTreeShows cLTake cLSpoilt cLTupled
theorem walk {l:PySem.W.OpenLaw}{q:wL}{loose:List Str}{XP:(Str->Option wm)->Heap->Prop}{YP:xg->Heap->Prop}{d:DefRec}{K:Params->wc}(hn:l.most=some 63)(hdf:d.params.defaults=[])
  (hY:∀(w:xg) (h:Heap),YP w h->(K w.params).In h)
  (F:∀(w:xg) (mg:Str->Option wm) (fa:Addr) (h:Heap),(K w.params).In h->h.Ns xw mg->mg d.name=some (.ref fa) →
   ∃fd:xB,(∀(s:wu) (u:wm),BindsTo s fd ⟨[u],[]⟩ [("script",u)])/\∀base:Heap,(K w.params).In base->base.Ns xw mg->bF l.prog w (K w.params) mg base CX0 53 fa fd ["script"] (mJ (K w.params))) :
  PySem.W.WalkO q loose XP YP l.row.toRowW d [] (λf vs=>PySem.call f vs) :=
 L2.sL (n:=63) (k:=53) (x := "script") (CX:=λ_=>CX0) (sp:=λw=>mJ (K w.params)) hn (by decide) hdf ⟨rfl,by decide,by decide⟩ hY F (λ_ _ a ns hl _ hS=>⟨a,ns,rfl,hS,hl,λ_=>rfl⟩) λ_ _ _ _ _ z=>z
end K31
def PySem.W.Fast.tw14153076390339318012:Nat:=0
def PySem.W.Fast.tw16815917337366756721:Nat:=0
def PySem.W.Fast.tw4722379593417614999:Nat:=0
def PySem.W.Fast.tw13750900772764398126:Nat:=0
def PySem.W.Fast.tw2551707950355238006:Nat:=0
def PySem.W.Fast.tw9003413948874435623:Nat:=0
def PySem.W.Fast.tw13998431960420427995:Nat:=0
def PySem.W.Fast.tw10393144343091584212:Nat:=0
def PySem.W.Fast.tw6930399398442458566:Nat:=0
def PySem.W.Fast.tw10688835501427061343:Nat:=0
def PySem.W.Fast.tw2368496254385359992:Nat:=0
def PySem.W.Fast.tw17955261769362384796:Nat:=0
def PySem.W.Fast.tw17371780340397545485:Nat:=0
def PySem.W.Fast.tw2681015445668951272:Nat:=0
def PySem.W.Fast.tw17280958482952709853:Nat:=0
def PySem.W.Fast.tw906627241917363510:Nat:=0
def PySem.W.Fast.tw4613332641110727749:Nat:=0
def PySem.W.Fast.tw14846120144345898791:Nat:=0
def PySem.W.Fast.tw22003192585894525:Nat:=0
def PySem.W.Fast.tw78583045118840378:Nat:=0
def PySem.W.Fast.tw5605964302653087036:Nat:=0
def PySem.W.Fast.tw14651952000295043873:Nat:=0
def PySem.W.Fast.tw7661030224264322959:Nat:=0
def PySem.W.Fast.tw9040672319109823506:Nat:=0
def PySem.W.Fast.tw4612636321250724000:Nat:=0
def PySem.W.Fast.tw2155807444165169236:Nat:=0
def PySem.W.Fast.tw6923812862822500421:Nat:=0
def PySem.W.Fast.tw16061586932240077912:Nat:=0
def PySem.W.Fast.tw4717863114677779966:Nat:=0
def PySem.W.Fast.tw11890775082214371631:Nat:=0
def PySem.W.Fast.tw7177014346639553022:Nat:=0
def PySem.W.Fast.tw6941743707228189605:Nat:=0
def PySem.W.Fast.tw8479084213421893336:Nat:=0
def PySem.W.Fast.tw5362902358729038848:Nat:=0
def PySem.W.Fast.tw8244025355264178405:Nat:=0
def PySem.W.Fast.tw13765236810153096390:Nat:=0
def PySem.W.Fast.tw8538312381365580273:Nat:=0
def PySem.W.Fast.tw7857183657382019484:Nat:=0
def PySem.W.Fast.tw13921621998871985069:Nat:=0
def PySem.W.Fast.tw6121730766008072459:Nat:=0
def PySem.W.Fast.tw13183963523955862490:Nat:=0
def PySem.W.Fast.tw2884092033474821201:Nat:=0
def PySem.W.Fast.tw12308058959208585512:Nat:=0
def PySem.W.Fast.tw2875076983022858599:Nat:=0
def PySem.W.Fast.tw17246591165781176623:Nat:=0
def PySem.W.Fast.tw594471340028069006:Nat:=0
def PySem.W.Fast.tw5026466653085660259:Nat:=0
def PySem.W.Fast.tw12113911351143925788:Nat:=0
def PySem.W.Fast.tw6187445529883807311:Nat:=0
def PySem.W.Fast.tw700519060013477713:Nat:=0
def PySem.W.Fast.tw13718435019985247039:Nat:=0
def PySem.W.Fast.tw3518974551075186942:Nat:=0
def PySem.W.Fast.tw2828565728563784289:Nat:=0
def PySem.W.Fast.tw11994780660600392569:Nat:=0
def PySem.W.Fast.tw15820668711278876021:Nat:=0
def PySem.W.Fast.tw7408904054995188743:Nat:=0
def PySem.W.Fast.tw11173980914266834370:Nat:=0
def PySem.W.Fast.tw14259295852920046338:Nat:=0
def PySem.W.Fast.tw4267965146091662919:Nat:=0
def PySem.W.Fast.tw15847712600546418915:Nat:=0
def PySem.W.Fast.tw4014335088975635867:Nat:=0
def PySem.W.Fast.tw9948876695725662294:Nat:=0
def PySem.W.Fast.tw12999999552275857122:Nat:=0
def PySem.W.Fast.tw3093837410318205304:Nat:=0
def PySem.W.Fast.tw8488801158812288659:Nat:=0
def PySem.W.Fast.tw18331289386806450951:Nat:=0
def PySem.W.Fast.tw6662245243727066438:Nat:=0
def PySem.W.Fast.tw8256471541048009467:Nat:=0
def PySem.W.Fast.tw4361802049898169764:Nat:=0
def PySem.W.Fast.tw13307994292891475679:Nat:=0
def PySem.W.Fast.tw15581832340417975409:Nat:=0
def PySem.W.Fast.tw13937684209055533701:Nat:=0
def PySem.W.Fast.tw7045891364070075861:Nat:=0
def PySem.W.Fast.tw5963772556670075551:Nat:=0
def PySem.W.Fast.tw8655803056106734330:Nat:=0
def PySem.W.Fast.tw16653721142316113268:Nat:=0
def PySem.W.Fast.tw1545198862021652586:Nat:=0
def PySem.W.Fast.tw13119914185569641574:Nat:=0
def PySem.W.Fast.tw2578100002282385326:Nat:=0
def PySem.W.Fast.tw17061575180567717134:Nat:=0
def PySem.W.Fast.tw16180791277075286576:Nat:=0
def PySem.W.Fast.tw7323336313820138642:Nat:=0
def PySem.W.Fast.tw10055349440499025516:Nat:=0
def PySem.W.Fast.tw5143696250532015402:Nat:=0
def PySem.W.Fast.tw5301218809447493996:Nat:=0
def PySem.W.Fast.tw3343110548847950241:Nat:=0
def PySem.W.Fast.tw16942679349211440636:Nat:=0
def PySem.W.Fast.tw16964086333407070458:Nat:=0
def PySem.W.Fast.tw10109985813010344352:Nat:=0
def PySem.W.Fast.tw814465531432683146:Nat:=0
def PySem.W.Fast.tw11809968355529961166:Nat:=0
def PySem.W.Fast.tw4981235933008710054:Nat:=0
def PySem.W.Fast.tw3129335838214186151:Nat:=0
def PySem.W.Fast.tw3252051593295731504:Nat:=0
def PySem.W.Fast.tw9387290528459875073:Nat:=0
def PySem.W.Fast.tw16127882792975869965:Nat:=0
def PySem.W.Fast.tw10470406552472390219:Nat:=0
def PySem.W.Fast.tw7049752664805363491:Nat:=0
def PySem.W.Fast.tw13421927972073908335:Nat:=0
def PySem.W.Fast.tw7327865269740547838:Nat:=0
def PySem.W.Fast.tw6305721640305898427:Nat:=0
def PySem.W.Fast.tw15490053719471753833:Nat:=0
def PySem.W.Fast.tw12263836733370239367:Nat:=0
def PySem.W.Fast.tw12131831555639500849:Nat:=0
def PySem.W.Fast.tw3501691974429411557:Nat:=0
def PySem.W.Fast.tw12101088977205199225:Nat:=0
def PySem.W.Fast.tw14962325351429586742:Nat:=0
def PySem.W.Fast.tw4226793521451597680:Nat:=0
def PySem.W.Fast.tw16452425354129079420:Nat:=0
def PySem.W.Fast.tw8090290919583103501:Nat:=0
def PySem.W.Fast.tw1744184338143011503:Nat:=0
def PySem.W.Fast.tw947643038385848023:Nat:=0
def PySem.W.Fast.tw15735747944661382267:Nat:=0
open PySem PySem.W PyProof.Rows
set_option maxRecDepth 100000 in
set_option maxHeartbeats 0 in
theorem PySem.Challenge.cw_ringfell_k31_trees_judged_holds : PySem.Challenge.rw_ringfell_k31_trees_judged.Holds := by
 w_on;o_law;k_head;(case hw=>w_witness2)
 k_fill
 refine K31.walk (l:=PySem.Challenge.rw_ringfell_k31_trees_judged) rfl rfl (λw h Y=>PySem.W.kIn_of Y) ?F
 case F =>
  intro w mg fa h KX G hmg
  refine' K31.all_mk KX G hmg ?_ ?_ ?_ ?_ ?_ ?_ ?_ ?_ ?_ ?_ ?_ ?_ ?_ ?_ ?_ ?_ ?_ ?_ ?_ ?_ ?_ ?_ ?_ ?_ ?_ ?_ ?_ ?_ ?_ ?_ ?_ ?_ ?_ ?_ ?_ ?_ ?_ ?_ ?_ ?_ ?_ ?_ ?_ ?_ ?_ ?_ ?_
  any_goals k_is
  any_goals (refine' L2.bR.mk ?a ?l ?c ?k;(case a=>k_is);(case l=>k_is);(case c=>k_is);(case k=>k_is))
  all_goals kernel_rfl
