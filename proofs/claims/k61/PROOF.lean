import PyProof.Rows.All
import Wide.All
import OpenK.AllK
import Wide.FinOn
import Lean
import PyProof.EqAt
import PyProof.EqKinds
import PyProof.TupleCall
import KE.KRevIter
import PyProof.MinMaxWalk
import PySem.Challenge.RW_ringfell_k61_one_way_trees_judged
open List renaming length_map → wW,length_append → w9,size_toArray → xc,mem_singleton → xo,getElem?_eq_getElem → xp,map_append → xq,getD_eq_getElem?_getD → xu,getElem?_eq_some_iff → xv,mem_append → xx,mem_of_getElem? → xE,map_cons → xJ,mem_cons → xK,mem_cons_self → xN,mem_cons_of_mem → xR,mem_append_right → xS,append_assoc → xU,length_cons → xV,getElem?_map → xW,mem_range → yf,replicate → yg,getElem?_toArray → yi,range → yj,mem_iff_getElem? → yn,take_of_length_le → yq,append_nil → yu,length_singleton → yv,length_take → yy,take_sublist → yA,drop_sublist → yC,mem_map → yG,length_pos_iff → yK,mem_append_left → yQ,pairwise_append → yR,replicate_succ → yS,all_eq_true → yU,extract_eq_take_drop → yZ,length_drop → y3,flatten_cons → y7,take_add_one → y8,length_range → y9,getElem?_take → zg,getElem_mem → zk,take_length → zo,pairwise_map → zq,mem_map_of_mem → zr,take_append_drop → zy,mem_of_mem_drop → zC,mem_of_mem_take → zD,pairwise_singleton → zF,getElem?_append_right → zL,getElem?_append_left → zP,length_nil → zV,length_reverse → z8,getElem?_cons_succ → z9,drop_append_of_le_length → Ac,any_eq_true → Ad,getElem?_drop → Ai,perm_append_comm → Ap,any_cons → Ar,map_take → Av,pairwise_iff_getElem → Az,lookup_cons → AB,filterMap_cons → AE,reverse_append → AH,set_set → AK,nodup_cons → AR,nil_append → AU,length_eq_zero_iff → AW,filter_cons_of_pos → AY,filter_cons_of_neg → AZ,getElem?_set_self → A5,length_replicate → Bc,all_map → Be,take_append_of_le_length → Bg,not_mem_nil → Bi,length_set → Bq,getElem_of_mem → Bv,find?_cons → Bz,perm_ext_iff_of_nodup → BG,mem_filterMap → BI,map_map → BK,filter_append → BL,getElem?_zip_eq_some → BO,getElem?_eq_none_iff → BP,drop_eq_getElem_cons → BQ,drop_zero → BS,take_zero → BU,drop_left → BV,find?_range_eq_none → B6,drop_eq_nil_of_le → Cs,mem_filter → Cw,of_mem_zip → Cy,foldl_cons → Cz,contains_iff_mem → CI,getElem?_eq_none → CJ,getElem?_reverse → CL,sum_append → CM,any_map → CN,getElem?_set_ne → CY,reverse_reverse → CZ,map_eq_nil_iff → C7,pairwise_cons → Dm,zip_cons_cons → Dq,map_drop → Dr,reverse_cons → DC,ext_getElem? → DG,nodup_append → DI,map_nil → DL,map_set → DM,perm_middle → DU,nodup_range → DX,ext_getElem → DZ,map_reverse → D0,length_zip → D2,range_succ → D4,drop_drop → Ed,nodup_nil → Ee,all_cons → Et,set_comm → Eu,sum_cons → Ex
open PySem.Heap renaming get?_push_of_some → wX,get?_push_size → xr,lt_size → xt,get?_update_other → yc,get?_update_self → yF,size_push → zG,get?_update_ne → C6
open PySem.W renaming Frag → wY,mg_none_of → x8,nsIn → yx,kia_one → yY,mg_of → Cg,cellsFrom_some → Cq,kat_nil → CG,callWith_K → Dg,kitx_list → DA,kitx_dict → DB
open PySem renaming wpAny_bind → wZ,Value → xb,sizeLine → xf,Shared → xh,wpAny_pure → xn,Program → xA,wpAny → xM,World → xQ,model → xT,mainGlobals → xZ,FuncData → yd,Around → yh,wpAny_newObj_type → yl,bootBuiltins → yo,codeAny_builtin → yp,wpAny_call_entry → yr,compareOp → yI,wpAny_holding → yL,wpAny_callSpecial?_slot → yM,starEach → yO,wpAny_truthy_bool → yV,wpAny_pyIter_tuple → zi,plainId_quiet → zw,intItems → zz,mem_of_lookup → zJ,wpAny_field → zR,wpAny_mono → zX,wpAny_passesOwn → zY,richCompare_meets_room → Ag,wpAny_Call_Name_kw → Aj,wpAny_typeOf → Aq,wpAny_pyIter_list → Ax,wpAny_rule → Ay,codeAny_mono → AQ,numAt_eq → A3,wpAny_seqItems → Ba,wpAny_runValue → Bb,wpAny_forIn_list → Bk,codeAny → Bl,wpAny_execs_nil → BA,wpAny_letOwnedTupleGo_enum → BH,isSubtype_type → B2,wpAny_tryCatch → B3,wpAny_sequenceKey → B8,wpAny_pyIter_slot → B9,wpAny_attempt → Ci,wpAny_newList → Cm,intItems_at → Cn,noFill_tuple_add → Cp,wpAny_isTrue_Compare1 → CP,concat_meets → CQ,codeAny_of_tree → CS,weight_type_call_type → CT,wpAny_updateSeq → CU,intKind_is → CW,codeAny_call_builtin → C1,wpAny_pyIter_revIter → C2,backTo → C4,wpAny_letGo → Dd,wpAny_standAt → Dv,seq_tuple_add → Dw,evalPart_none → Dy,wpAny_load → DJ,holding → DK,seqIndex_neg → DP,sizeLine_eq → D6,seqIndex_of → D7,wpAny_of_eq → D8,wpAny_Name → Ek,wpAny_call → Em,typeIs_int → En,call_meets → Eo,rawInt → Er
open Nat renaming le_refl → xg,ne_of_lt → xF,lt_of_lt_of_le → xH,le_trans → ye,zero_le → yk,lt_irrefl → yt,lt_succ_of_lt → yB,lt_succ_self → y6,le_sub_one_of_lt → zE,le_add_right → zN,ne_of_gt → zO,zero_add → z5,add_sub_cancel_left → z7,eq_zero_of_not_pos → Ae,le_of_lt → Ak,lt_of_succ_lt → As,le_of_lt_succ → Aw,lt_of_not_le → AD,add_le_add_left → AF,succ_pos → AL,lt_of_le_of_lt → AV,le_succ_of_le → A9,sub_one_lt_of_lt → Bm,mod_lt → Bo,le_succ → Br,add_le_add → B0,le_antisymm → CB,le_of_sub_eq_zero → CC,min_self → CD,lt_trans → CH,lt_of_le_of_ne → Dn,pos_of_ne_zero → Dp,sub_pos_of_lt → DE,le_of_succ_le → DF,le_of_not_lt → DT,succ_le_succ → DV,not_lt_zero → D5,add_assoc → Ew
open Array renaming length_toList → xk,getElem?_toList → xy,toList_append → xY,mem_toList_iff → x6,getElem?_eq_getElem → yw,size_map → yE,getD_eq_getD_getElem? → zh,getElem?_eq_some_iff → zp,toList_extract → zB,toList_reverse → zS,toList_push → zU,size_push → zW,getElem?_eq_none → Af,size_append → Au,toList_map → Bh,toList_setIfInBounds → BE,perm_iff_toList_perm → BF,size_setIfInBounds → B5,getElem?_replicate → B7,toList_inj → DW
open Bool renaming false_ne_true → xw,and_eq_true → yz,false_eq_true → ze,eq_false_iff → zH,eq_iff_iff → zT,not_true → Cc,false_or → Dt
open PySem.Value renaming ref → xB,int → yJ,none → zc,type → Bp,isInt_shape → Dz
open PyProof.Rows renaming wpS_bind → xC,Keyed → xD,wpS_pure → xG,arrOf → xI,pendingOf → xO,SortSt → xP,slot_tuple_getitem → yb,wpS_forRange → yH,callWith_type1 → zd,wpS_mono → zv,wpS_modify → zI,IntsAre → A4,reverseSlice'_eq → Bj,args_tuple_getitem → BM,KeyOrd → BN,slicePart_none → B1,wpS_get → Cj,listUpdate_at → Ck,subscriptTail_builtinR → Cv,wpS_lift → CV,getElem?_mirror_all → Dc,tupleItemsOf_ → Dx,listItems_at → DQ,size_push' → Ep
open PyProof.Rows.KeyOrd renaming kle_trans → xX,kle_of_klt → yP,kle_refl → zf,kle_antisymm → C5
open Option.some renaming inj → x9
open PySem.Around renaming under_plainId → ym,under_plain → Ds
open PySem.PassesOwn renaming never → yD
open PySem.F renaming slot_dict_keyiterator_next → yN,called_set → yT,plain_min_loop → yX,slot_tuple_iterator_next → zM,plain_extend_loop → zQ,plain_list_iadd → Ab,slot_enumerate_iter → An,slot_enumerate_next → Ao,args_dict_keyiterator_next_1 → AA,entry_dict_keyiterator_next → AI,args_tuple_add_2 → AJ,slot_list_append → AN,type_list_append → AO,entry_tuple_add → AS,plainAttrs_list → A0,slot_tuple_add → A6,entry_min_loop → A7,slot_range_contains → Bd,args_tuple_iterator_next_1 → Bn,entry_tuple_iterator_next → Bs,entry_proto_collect → Bw,plain_proto_collect → Bx,entry_extend_loop → BX,args_enumerate_iter_1 → Cb,entry_list_iadd → Ce,args_list_eq_2 → Co,entry_enumerate_iter → Cr,typeCall_set_1 → Ct,slot_dict_iter → Cu,entry_list_eq → CK,mro_reversed → C0,slot_list_eq → C3,entry_type_call → DH,entry_set_init → DY,slot_int_rmul → D1,plain_set_new → D3
open PySem.Obj renaming mapSeq → yW,data_mapFields → Dl
open PySem.Builtin.List renaming listExtendWith → zj,listSameRef → Ca
open Iff renaming rfl → zt
open PySem.Paired renaming length → zu,snoc → EB
open List.Perm renaming append_left → zx,append_right → zK,refl → BR
open Ne renaming symm → zA
open PySem.SeqAt renaming EqAt → zZ,list_eq_lengthsAt → Cf,in_tupleAt → DS
open List.Nodup renaming length_le_of_subset → z6
open PyProof.Rows.F renaming plain_set_update_loop → Aa,entry_set_update_loop → Cd
open PySem.SeqAt.EqAt renaming int_int → Ah,same → Am,int_str → De,str_int → Df,str_str → Di,of_refs → Dj
open PySem.Heap.SameBut renaming update → AG
open List.Pairwise renaming imp_of_mem → AM,imp → EC
open Int renaming emod_lt_of_pos → AX,toNat_natCast → A8,emod_nonneg → Bt,fdiv_eq_ediv_of_nonneg → BC,fmod_eq_emod_of_nonneg → BD,zero_add → CO,add_zero → DN
open PySem.SeqAt.RcAt renaming lists → Bf,tuples → DD
open PySem.Calls renaming Name_function_global → BB,call_function_entry → BW
open PySem.Code renaming quiet_builtin → BJ
open Classical renaming byContradiction → BZ
open Option renaming isSome_iff_exists → B4,map_some → CA,getD_none → DR
open PySem.Walks renaming tuple → C8,list → Ej
open PySem.SeqAt.RcNeAt renaming tuples → C9,lists → Du
open PySem.Heap.IsSliceOf renaming new → Dh
open PySem.EqMixed renaming eq_bool_str → D9,eq_str_bool → Ea,ne_bool_str → Eb,ne_str_bool → Ec,eq_int_str → Ef,eq_str_int → Eg,ne_int_str → Eh,ne_str_int → Ei
open Prod renaming ext → Es
open PySem.W.Looks renaming of_pure → Ey
open PySem.W.KatTups renaming cons → Ez
open PySem.Moved renaming trans → EA
set_option Elab.async false
set_option linter.all false
set_option maxRecDepth 100000
namespace L2
open PySem PySem.Spec PyProof.Rows
abbrev Key:=Sum Int Str
def jQ:Key->xb->Bool
 | .inl k,v=>Value.isInt k v
 | .inr x,v=>Value.isStrOf x v
def keyH (w:xQ):Key->Int
 | .inl k=>hashInt k
 | .inr x=>hashStr w x
theorem bB:∀{k:Key} {v:xb},jQ k v=true->(∃i t,k=Sum.inl i/\v=yJ i t)\/(∃x t,k=Sum.inr x/\v=Value.str x t)
 | .inl i,v,h=>by
  obtain ⟨t,e⟩:=Dz (k:=i) (v:=v) h
  exact .inl ⟨i,t,rfl,e⟩
 | .inr x,v,h=>by
  obtain ⟨t,e⟩:=Value.isStrOf_shape (x:=x) (v:=v) h
  exact .inr ⟨x,t,rfl,e⟩
theorem pH (i:Int)(t:Tok):jQ (.inl i) (.int i t)=true:=by simp[jQ,Value.isInt]
theorem pI (x:Str)(t:Tok):jQ (.inr x) (.str x t)=true:=by simp[jQ,Value.isStrOf]
theorem uP (a b:Int):decide ((Sum.inl a:Key)=Sum.inl b)=(a == b):=by
 by_cases e:a=b
 ·subst e;simp
 ·have h:¬ (Sum.inl a:Key)=Sum.inl b:=λq=>e (Sum.inl.inj q)
  rw[decide_eq_false h]
  exact (beq_eq_false_iff_ne.mpr e).symm
theorem uQ (a b:Str):decide ((Sum.inr a:Key)=Sum.inr b)=decide (a=b):=by
 by_cases e:a=b
 ·subst e;simp
 ·have h:¬ (Sum.inr a:Key)=Sum.inr b:=λq=>e (Sum.inr.inj q)
  rw[decide_eq_false h,decide_eq_false e]
theorem uS (a:Int)(b:Str):decide ((Sum.inl a:Key)=Sum.inr b)=false:=decide_eq_false (λq=>nomatch q)
theorem uT (a:Str)(b:Int):decide ((Sum.inr a:Key)=Sum.inl b)=false:=decide_eq_false (λq=>nomatch q)
def bT (prog:xA)(w:xQ):PySem.KeyKind prog w Key where
 is:=jQ
 hash:=keyH w
 inj:=λv a b ha hb=>by
  rcases bB ha with ⟨i,t,rfl,rfl⟩ | ⟨x,t,rfl,rfl⟩
  ·rcases bB hb with ⟨j,u,rfl,e⟩ | ⟨y,u,rfl,e⟩
   ·injection e with e1 _;rw[e1]
   ·exact nomatch e
  ·rcases bB hb with ⟨j,u,rfl,e⟩ | ⟨y,u,rfl,e⟩
   ·exact nomatch e
   ·injection e with e1 _;rw[e1]
 byValue:=λk v h=>by
  rcases bB h with ⟨i,t,rfl,rfl⟩ | ⟨x,t,rfl,rfl⟩ <;> rfl
 pyHash:=λhv h=>by
  rcases bB hv with ⟨i,t,rfl,rfl⟩ | ⟨x,t,rfl,rfl⟩
  ·exact wpAny_pyHash_int h
  ·exact wpAny_pyHash_str h
 eqBool:=λhu hv h=>by
  rcases bB hu with ⟨i,t,rfl,rfl⟩ | ⟨x,t,rfl,rfl⟩
  ·rcases bB hv with ⟨j,u,rfl,rfl⟩ | ⟨y,u,rfl,rfl⟩
   ·rw[uP] at h;exact wpAny_eqBool_int h
   ·rw[uS] at h;exact De i t y u _ _ _ _ h
  ·rcases bB hv with ⟨j,u,rfl,rfl⟩ | ⟨y,u,rfl,rfl⟩
   ·rw[uT] at h;exact Df x t j u _ _ _ _ h
   ·rw[uQ] at h;exact wpAny_eqBool_str h
 «strs» := λk x t v h=>by
  rcases bB h with ⟨i,u,rfl,e⟩ | ⟨y,u,rfl,e⟩
  ·exact nomatch e
  ·injection e with e1 _
   subst e1
   cases v <;> rfl
theorem lF (prog:xA)(w:xQ)(i:Int)(t:Tok):(bT prog w).is (.inl i) (.int i t)=true:=pH i t
theorem lG (prog:xA)(w:xQ)(x:Str)(t:Tok):(bT prog w).is (.inr x) (.str x t)=true:=pI x t
open PySem PySem.Spec PyProof.Rows
inductive V where
 | non | bl (b:Bool) | int (i:Int) | str (x:Str) | byt (b:Array UInt8) | flt (b:UInt64) | ref (a:Addr) | ty (n:String)
 deriving DecidableEq
def RelV:V->xb->Prop
 | .non,u=>u=zc
 | .bl b,u=>u=Value.bool b
 | .int i,u=>∃t,u=yJ i t
 | .str x,u=>∃t,u=Value.str x t
 | .byt b,u=>∃t,u=Value.bytes b t
 | .flt b,u=>∃t,u=Value.float b t
 | .ref a,u=>u=xB a
 | .ty n,u=>u=Bp n
abbrev Vals:List V->List xb->Prop:=Paired RelV
theorem Vals.length {xs:List V}{us:List xb}(r:Vals xs us):xs.length=us.length:=zu r
theorem Vals.get:∀{xs:List V} {us:List xb} {i:Nat} {x:V},Vals xs us->xs[i]? = some x->∃u,us[i]? = some u/\RelV x u
 | _,_,_,_,.nil,e=>by simp at e
 | _,_,0,_,.cons r _,e=>by simp at e;subst e;exact ⟨_,rfl,r⟩
 | _,_,i+1,x,.cons _ t,e=>by
  obtain ⟨u,h1,h2⟩:=Vals.get (i:=i) (x:=x) t (by simpa using e)
  exact ⟨u,by simpa using h1,h2⟩
theorem Vals.set {x:V}{u:xb}(r:RelV x u):∀{xs:List V} {us:List xb} (i:Nat),Vals xs us->Vals (xs.set i x) (us.set i u)
 | _,_,_,.nil =>.nil
 | _,_,0,.cons _ t =>.cons r t
 | _,_,i+1,.cons q t =>.cons q (Vals.set r i t)
theorem Vals.append:∀{xs ys:List V} {us ws:List xb},Vals xs us->Vals ys ws->Vals (xs++ys) (us++ws)
 | _,_,_,_,.nil,s=>s
 | _,_,_,_,.cons r t,s =>.cons r (Vals.append t s)
theorem Vals.take:∀{xs:List V} {us:List xb} (n:Nat),Vals xs us->Vals (xs.take n) (us.take n)
 | _,_,0,_ =>.nil
 | _,_,_+1,.nil =>.nil
 | _,_,n+1,.cons r t =>.cons r (Vals.take n t)
theorem Vals.drop:∀{xs:List V} {us:List xb} (n:Nat),Vals xs us->Vals (xs.drop n) (us.drop n)
 | _,_,0,r=>r
 | _,_,_+1,.nil =>.nil
 | _,_,n+1,.cons _ t=>Vals.drop n t
def pJ:Option V->Option xb->Prop
 | some v,some u=>RelV v u
 | none,none=>True
 | _,_=>False
def KV {κ:Type}:List (κ×V)->List (κ×xb)->Prop:=Paired λ(p:κ×V) (q:κ×xb)=>p.1=q.1/\RelV p.2 q.2
def kV:Key->V
 | .inl i =>.int i
 | .inr x =>.str x
inductive HO where
  | lst (xs:List V)
  | tup (xs:List V)
  | dK (kvs:List (Key×V)) | dT (kvs:List (List Key×V))
  | set (S:Int->Bool) (n:Nat)
  | ins (C dx:Addr) (fs:List (Str×V))
  | own (x:Addr)
  | xd (fs:List (Str×V))
  | met (f x:Addr)
  | rng (lo hi:Int)
  | frz (o:Obj) (u:HO)
  | tbl (ps:Array xb)
  | ext (φ:Heap->Prop)
abbrev Hp:=Addr->Option HO
def upd (H:Hp)(a:Addr)(o:HO):Hp:=λb=>if b=a then some o else H b
theorem ae {H:Hp}{a:Addr}{o:HO}:upd H a o a=some o:=by unfold upd;rw[if_pos rfl]
theorem aG {H:Hp}{a b:Addr}{o:HO}(h:b≠a):upd H a o b=H b:=by unfold upd;rw[if_neg h]
theorem jR {H:Hp}{a b:Addr}{o u:HO}(h:H a=some o)(h':H b=some u)(d:o≠u):a≠b:=by
 intro e;subst e;rw[h] at h';exact d (x9 h')
theorem aP {H:Hp}{a b:Addr}{o:HO}(h:H a=some o)(h':H b=none):a≠b:=by
 intro e;subst e;rw[h] at h';cases h'
def cV (h:Heap)(a:Addr)(items:Array xb):Prop:=∃o,h.get? a=some o/\(o.cls = .type "tuple" /\ o.dict=none)/\∃n,o.data = .seq items n
theorem cV.tup {h:Heap}{a:Addr}{items:Array xb}(x:cV h a items):IsTup h a items:=let ⟨o,e,c,n,d⟩:=x;⟨o,e,c.1,n,d⟩
theorem cV.new (h:Heap)(items:Array xb):cV (h.push { cls :=.type "tuple",data :=.seq items }) h.objs.size items:=⟨_,xr _ rfl,⟨rfl,rfl⟩,_,rfl⟩
section
variable  (P:xA)(w:xQ)
def bo (H:Hp)(h:Heap)(a:Addr):HO->Prop
 | .lst xs=>xs.length<=xf/\∃(its:List xb) (n:Nat),Vals xs its/\h.get? a=some { cls :=.type "list",data :=.seq its.toArray n }
 | .tup xs=>xs.length<=xf/\∃its:List xb,Vals xs its/\cV h a its.toArray
 | .dK kvs=>kvs.length<=xf/\(a == sysModules)=false/\∃vs,KV kvs vs/\h.DictOf (bT P w) a vs
 | .dT kvs=>kvs.length<=xf/\(a == sysModules)=false/\∃xs:List (List Key×Addr×xb),
   Paired (λ(p:List Key×V) (q:List Key×Addr×xb)=>p.1=q.1/\H q.2.1=some (.tup (p.1.map kV))/\RelV p.2 q.2.2) kvs xs ∧
   ∃o es ep,h.get? a=some o/\o.ExactDict/\o.data = .dict es ep/\es.toList=xs.map (entryOfKey (tupleKind (bT P w)))/\(xs.map (·.1)).Nodup
 | .set S n=>h.SetOf (intKind P w) a S n
 | .ins C dx fs=>H dx=some (.own a)/\fs.length<=1000/\dx≠a/\h.get? a=some (PySem.W.instObj C dx) ∧
   ∃mA,h.Ns1 dx mA/\(∀f,pJ (fs.lookup f) (mA f))/\PySem.Within mA (fs.map (·.1))
 | .own _=>∃o,h.get? a=some o
 | .xd fs=>∃mA,h.Ns1 a mA/\∀f,pJ (fs.lookup f) (mA f)
 | .rng lo hi=>∃t u v,h.get? a=some { cls :=.type "range",data :=.fields #[.int lo t,.int hi u,.int 1 v] }
 | .frz o u=>h.get? a=some o/\bo H h a u
 | .tbl ps=>h.get? a=some { cls :=.none,data :=.fields ps }
 | .met f x=>h.get? a=some (PySem.W.methodObj (.ref f) (.ref x))
 | .ext φ=>φ h/\(∃o,h.get? a=some o)/\∀h1 h2:Heap, φ h1->(∀o,h1.get? a=some o->h2.get? a=some o) -> φ h2
def HOk (H:Hp)(h:Heap):Prop:=∀a o,H a=some o->bo P w H h a o
end
section
variable  {P:xA}{w:xQ}{H H':Hp}{h h':Heap}{a:Addr}{o:HO}
theorem bo.lt (x:bo P w H h a o):a<h.objs.size:=by
 cases o with
 | lst xs=>obtain ⟨_,_,_,_,e⟩:=x;exact xt e
 | tup xs=>obtain ⟨_,_,_,p⟩:=x;exact (cV.tup p).lt
 | dK kvs=>obtain ⟨_,_,_,_,o,_,_,e,_⟩:=x;exact xt e
 | dT kvs=>obtain ⟨_,_,_,_,o,_,_,e,_⟩:=x;exact xt e
 | set S n=>obtain ⟨o,_,_,_,e,_⟩:=x;exact xt e
 | ins C dx fs=>obtain ⟨_,_,_,e,_⟩:=x;exact xt e
 | own y=>obtain ⟨_,e⟩:=x;exact xt e
 | xd fs=>obtain ⟨_,⟨_,_,_,e,_⟩,_⟩:=x;exact xt e
 | rng lo hi=>obtain ⟨_,_,_,e⟩:=x;exact xt e
 | frz ob u=>obtain ⟨e,_⟩:=x;exact xt e
 | tbl ps=>exact xt (show h.get? a=some _ from x)
 | met f y=>exact xt (show h.get? a=some _ from x)
 | ext φ=>obtain ⟨_,⟨_,e⟩,_⟩:=x;exact xt e
theorem Paired.uU {α β:Type}{F G:α -> β -> Prop}:∀{l₁:List α} {l₂:List β},Paired F l₁ l₂->(∀a b,F a b->G a b)->Paired G l₁ l₂
 | _,_,.nil,_ =>.nil
 | _,_,.cons r t,f =>.cons (f _ _ r) (Paired.uU t f)
theorem bo.mR (x:bo P w H h a o)(k:∀b u,(b=a\/H b=some (.own a))->h.get? b=some u->h'.get? b=some u)
  (ho:∀b,H b=some (.own a)->H' b=some (.own a)) (ht:∀b xs,H b=some (.tup xs)->H' b=some (.tup xs)):bo P w H' h' a o:=by
 induction o with
 | lst xs=>obtain ⟨z,its,n,r,e⟩:=x;exact ⟨z,its,n,r,k _ _ (.inl rfl) e⟩
 | tup xs=>obtain ⟨z,its,r,ob,e,c⟩:=x;exact ⟨z,its,r,ob,k _ _ (.inl rfl) e,c⟩
 | dK kvs=>obtain ⟨z,y,vs,r,ob,es,ep,e,c⟩:=x;exact ⟨z,y,vs,r,ob,es,ep,k _ _ (.inl rfl) e,c⟩
 | dT kvs =>
  obtain ⟨z,y,xs,r,ob,es,ep,e,c⟩:=x
  exact ⟨z,y,xs,Paired.uU r λp q z=>⟨z.1,ht _ _ z.2.1,z.2.2⟩,ob,es,ep,k _ _ (.inl rfl) e,c⟩
 | set S n=>obtain ⟨ob,es,ep,t,e,c⟩:=x;exact ⟨ob,es,ep,t,k _ _ (.inl rfl) e,c⟩
 | ins C dx fs =>
  obtain ⟨d,z,ne,e,mA,⟨od,es,ep,e2,c⟩,r⟩:=x
  exact ⟨ho _ d,z,ne,k _ _ (.inl rfl) e,mA,⟨od,es,ep,k _ _ (.inr d) e2,c⟩,r⟩
 | own y=>obtain ⟨ob,e⟩:=x;exact ⟨ob,k _ _ (.inl rfl) e⟩
 | xd fs=>obtain ⟨mA,⟨od,es,ep,e,c⟩,r⟩:=x;exact ⟨mA,⟨od,es,ep,k _ _ (.inl rfl) e,c⟩,r⟩
 | rng lo hi=>obtain ⟨t,u,v,e⟩:=x;exact ⟨t,u,v,k _ _ (.inl rfl) e⟩
 | frz ob u ih=>obtain ⟨e,q⟩:=x;exact ⟨k _ _ (.inl rfl) e,ih q⟩
 | tbl ps =>
  have e:h.get? a=some { cls :=.none,data :=.fields ps }:=x
  show h'.get? a=some { cls :=.none,data :=.fields ps }
  exact k a _ (.inl rfl) e
 | met f y =>
  have e:h.get? a=some (PySem.W.methodObj (.ref f) (.ref y)):=x
  show h'.get? a=some (PySem.W.methodObj (.ref f) (.ref y))
  exact k a _ (.inl rfl) e
 | ext φ=>obtain ⟨p,⟨o,e⟩,st⟩:=x;exact ⟨st _ _ p λo q=>k _ _ (.inl rfl) q,⟨o,k _ _ (.inl rfl) e⟩,st⟩
theorem HOk.lt (x:HOk P w H h)(e:H a=some o):a<h.objs.size:=(x a o e).lt
theorem HOk.fresh (x:HOk P w H h)(e:h.objs.size<=a):H a=none:=by
 cases q:H a with
 | none=>rfl
 | some u=>exact absurd (xH (x.lt q) e) (yt _)
theorem HOk.kept (x:HOk P w H h)(k:∀b u,h.get? b=some u->h'.get? b=some u):HOk P w H h':=λa o e =>
 (x a o e).mR (λb u _ q=>k b u q) (λ_ q=>q) λ_ _ q=>q
theorem HOk.laid (x:HOk P w H h)(k:∀b u,h.get? b=some u->h'.get? b=some u)(hp:h.objs.size<=a)(new:bo P w (upd H a o) h' a o):HOk P w (upd H a o) h':=λb u e=>by
 have hn:=x.fresh hp
 by_cases hb:b=a
 ·subst hb;rw[ae] at e;cases e;exact new
 ·rw[aG hb] at e
  exact (x b u e).mR (λc v _ q=>k c v q) (λc q=>by rw[aG (aP q hn)];exact q) λc xs q=>by rw[aG (aP q hn)];exact q
end
def Rd (H:Hp)(a:Addr)(u:HO):Prop:=H a=some u\/∃o,H a=some (.frz o u)
theorem Rd.ok {P:xA}{w:xQ}{H:Hp}{h:Heap}{a:Addr}{u:HO}(r:Rd H a u)(x:HOk P w H h):bo P w H h a u:=by
 rcases r with r | ⟨o,r⟩
 ·exact x a u r
 ·obtain ⟨_,q⟩:=x a _ r
  exact q
def Mut:Option HO->Prop
 | some (.lst _)=>True
 | some (.dK _)=>True
 | some (.dT _)=>True
 | some (.set _ _)=>True
 | some (.ins _ _ _)=>True
 | some (.ext _)=>True
 | _=>False
section
variable  {P:xA}{w:xQ}{H:Hp}{h h':Heap}{x e:Addr}{o':HO}
theorem HOk.write (ok:HOk P w H h)(mu:Mut (H x))(he:e=x\/H e=some (.own x))(k:∀b u,b≠e->h.get? b=some u->h'.get? b=some u)(heo:∃u,h'.get? e=some u)
  (new:bo P w (upd H x o') h' x o'):HOk P w (upd H x o') h':=λb u q=>by
 have nown:∀c y,H c=some (.own y)->c≠x:=λc y r z=>by subst z;rw[r] at mu;exact mu
 have ntup:∀c xs,H c=some (.tup xs)->c≠x:=λc xs r z=>by subst z;rw[r] at mu;exact mu
 by_cases hb:b=x
 ·subst hb;rw[ae] at q;cases q;exact new
 ·rw[aG hb] at q
  by_cases hbe:b=e
  ·have q':H b=some (.own x):=by
    rcases he with z | z
    ·exact absurd (hbe.trans z) hb
    ·rw[hbe];exact z
   rw[q] at q';cases q'
   obtain ⟨v,hv⟩:=heo
   exact ⟨v,by rw[hbe];exact hv⟩
  ·refine (ok b u q).mR (λc v hc r=>k c v ?_ r) (λc r=>by rw[aG (nown c b r)];exact r) λc xs r=>by rw[aG (ntup c xs r)];exact r
   rcases hc with rfl | hc
   ·exact hbe
   ·rintro rfl
    rcases he with z | z
    ·exact nown c b hc z
    ·rw[hc] at z;cases z;exact hb rfl
end
structure Un (fs ex:List Addr)(H H':Hp)(h h':Heap):Prop where
 keep:∀b o,h.get? b=some o->H b=none->b∉fs->b∉ex->h'.get? b=some o
 slot:∀b o,h.get? b=some o->H b=none->b∈fs->b∉ex->∃sl,h'.get? b=some { o with slots:=sl }
 free:∀b o,h.get? b=some o->H b=none->b∉ex->H' b=none
 there:∀b o,h.get? b=some o->b∉ex->∃o',h'.get? b=some o'
 tups:∀b xs,H b=some (.tup xs)->H' b=some (.tup xs)
 frzs:∀b o u,H b=some (.frz o u)->H' b=some (.frz o u)
 tbls:∀b ps,H b=some (.tbl ps)->∃more,H' b=some (.tbl (ps++more))
section
variable  {fs fs' ex ex':List Addr}{H H1 H2:Hp}{h h1 h2 h':Heap}{a x e:Addr}{o:HO}
theorem Un.any (u:Un fs ex H H1 h h1){b:Addr}{ob:Obj}(q:h.get? b=some ob)(n:H b=none)(hx:b∉ex):∃sl,h1.get? b=some { ob with slots:=sl }:=by
 by_cases hb:b∈fs
 ·exact u.slot b ob q n hb hx
 ·exact ⟨ob.slots,u.keep b ob q n hb hx⟩
theorem Un.kept (k:∀b u,h.get? b=some u->h'.get? b=some u):Un fs ex H H h h' :=
 ⟨λb ob q _ _ _=>k b ob q,λb ob q _ _ _=>⟨ob.slots,k b ob q⟩,λ_ _ _ n _=>n,λb ob q _=>⟨ob,k b ob q⟩,λ_ _ q=>q,λ_ _ _ q=>q,λ_ ps q=>⟨#[],by rw[q];simp⟩⟩
theorem Un.refl:Un fs ex H H h h:=Un.kept λ_ _ q=>q
theorem Un.laid (k:∀b u,h.get? b=some u->h'.get? b=some u)(hp:h.objs.size<=a)(hn:H a=none):Un fs ex H (upd H a o) h h' where
 keep:=λb u q _ _ _=>k b u q
 slot:=λb u q _ _ _=>⟨u.slots,k b u q⟩
 free:=λb u q n _=>by rw[aG (xF (xH (xt q) hp))];exact n
 there:=λb u q _=>⟨u,k b u q⟩
 tups:=λb xs q=>by rw[aG (aP q hn)];exact q
 frzs:=λb u xs q=>by rw[aG (aP q hn)];exact q
 tbls:=λb ps q=>⟨#[],by rw[aG (aP q hn),q];simp⟩
theorem Un.write (mu:Mut (H x))(he:e=x\/H e=some (.own x))(k:∀b u,b≠e->h.get? b=some u->h'.get? b=some u)(heo:∃u,h'.get? e=some u):Un fs ex H (upd H x o) h h':=by
 have hx:∀b,H b=none->b≠x:=λb n z=>by subst z;rw[n] at mu;exact mu
 have hb:∀b,H b=none->b≠e:=λb n z=>by
  subst z
  rcases he with r | r
  ·exact hx b n r
  ·rw[n] at r;cases r
 have hm:∀b u,H b=some u->¬ Mut (some u)->b≠x:=λb u q nm z=>by subst z;rw[q] at mu;exact nm mu
 refine ⟨λb u q n _ _=>k b u (hb b n) q,λb u q n _ _=>⟨u.slots,k b u (hb b n) q⟩,λb u q n _=>by rw[aG (hx b n)];exact n,λb u q _ =>?_,
  λb xs q=>by rw[aG (hm b _ q λz=>z)];exact q,λb u xs q=>by rw[aG (hm b _ q λz=>z)];exact q,λb ps q=>⟨#[],by rw[aG (hm b _ q λz=>z),q];simp⟩⟩
 by_cases hbe:b=e
 ·subst hbe;exact heo
 ·exact ⟨u,k b u hbe q⟩
end
def trk (h:Heap)(H:Hp):List Addr:=(yj h.objs.size).filter λa=>(H a).isSome
def kC (h:Heap)(H:Hp):Heap:=PySem.W.hideAll h (trk h H)
theorem pK (h:Heap)(H:Hp):(kC h H).objs.size=h.objs.size:=PySem.W.hideAll_size _ _
theorem qP {h:Heap}{H:Hp}{b:Addr}{o:Obj}(e:h.get? b=some o)(n:H b=none):(kC h H).get? b=some o :=
 PySem.W.hideAll_get _ e λhm=>by
  have q:(H b).isSome=true:=(Cw.mp hm).2
  rw[n] at q;simp at q
theorem sL {h:Heap}{H:Hp}{b:Addr}{o:Obj}(e:(kC h H).get? b=some o):h.get? b=some o/\H b=none:=by
 have e':h.get? b=some o:=PySem.W.of_hideAll (trk h H) e
 refine ⟨e',?_⟩
 cases q:H b with
 | none=>rfl
 | some x =>
  have hm:b∈trk h H:=Cw.mpr ⟨yf.mpr (xt e'),by simp[q]⟩
  have z:(kC h H).get? b=none:=PySem.W.hideAll_none (trk h H) hm
  rw[z] at e;cases e
def sM (g h:Heap)(L:Addr):List (Addr×Obj):=(yj h.objs.size).filterMap λa=>if a=L\/(g.get? a).isSome=true then none else (h.get? a).map λo=>(a,o)
def rest (g h:Heap)(L d:Addr):List (Addr×Obj):=(sM g h L).filter λp=>decide (p.1≠d)
open PySem PySem.Spec PyProof.Rows
structure Mod (K:wY)(mg:Str->Option xb)(base:Heap):Prop where
 kin:K.In base
 glob:base.Ns xZ mg
 blt:∃mb,base.Ns builtinsNs mb/\∀x:Str,x ≠ "__name__" -> mb x=yo x
 nolimit:base.NoLimit
structure Cx where
 prog:xA
 w:xQ
 K:wY
 mg:Str->Option xb
 base:Heap
 A:yh
 N:List Str
 s₀:xh
 H₀:Hp
 env:Env
 outer:List Env
 stack:List Env
 ex:List Addr
 fn:Str->Bool
 calm:Bool
 pn:List (Addr×Obj)
 xe:xb->xh->Prop
def frs (l:List Env):List Addr:=l.filterMap (·.frame)
abbrev Cx.fs (X:Cx):List Addr:=frs X.outer
def Vis (sc:Scope)(x:Str):Prop:=sc.names.lookup x=some .local\/sc.names.lookup x=some .cell\/sc.names.lookup x=some .free
def Loc (sc:Scope)(x:Str):Prop:=sc.names.lookup x=some .local\/sc.names.lookup x=some .cell
def Look (env:Env)(h:Heap)(m:Str->Option xb)(x:Str)(u:xb):Prop :=
 (env.kindOf x=some .local/\m x=some u)\/((env.kindOf x=some .cell\/env.kindOf x=some .free)/\∃c,env.cells.lookup x=some c/\h.IsCell c (some u))
structure Cx.Ok (X:Cx):Prop where
 mod:Mod X.K X.mg X.base
 kind:X.env.scope.kind = .function
 glob:X.env.globals=xZ
 blt:X.env.builtins=builtinsNs
 above:X.s₀.heap.objs.size<=X.env.locals
 inj:∀x y c,X.env.cells.lookup x=some c->X.env.cells.lookup y=some c->x=y
 has:∀x,(X.env.kindOf x=some .cell\/X.env.kindOf x=some .free)->∃c,X.env.cells.lookup x=some c
 cab:∀x c,X.fn x=true->X.env.cells.lookup x=some c->X.s₀.heap.objs.size<=c
 hd:X.calm=true->X.A.handled=none
 frames:X.A.frames=some X.stack
 stk:X.stack=X.outer\/(X.stack=X.env :: X.outer/\X.env.frame=some X.env.locals)
 exf:∀b∈X.ex,b≠X.env.locals/\∀x c,X.env.cells.lookup x=some c->c≠b
 bs:∀b o,X.base.get? b=some o->X.s₀.heap.get? b=some o/\X.H₀ b=none
 bsz:X.base.objs.size<=X.s₀.heap.objs.size
 noex:∀b o,X.base.get? b=some o->b∉X.ex
 exfs:∀b∈X.ex,b∉X.fs
 funs:X.s₀.heap.FunFrames X.base X.outer
 frf:∀b∈X.fs,X.H₀ b=none
structure Inv (X:Cx)(pins:List (Addr×Obj))(σ:List (Option V))(H:Hp)(s:xh):Prop where
 ok:X.Ok
 os:s.os=X.s₀.os
 bare:AllBare s.gens
 base:Un X.fs X.ex X.H₀ H X.s₀.heap s.heap
 loc:∃m,s.heap.Ns X.env.locals m/\∀(i:Nat) (x:Str) (v:V),X.N[i]? = some x->σ[i]? = some (some v)->Vis X.env.scope x->∃u,RelV v u/\Look X.env s.heap m x u
 cell:∀x c,X.env.cells.lookup x=some c->∃v,s.heap.IsCell c v
 free:H X.env.locals=none
 freeC:∀x c,X.env.cells.lookup x=some c->H c=none
 pin:∀p∈X.pn++pins,s.heap.get? p.1=some p.2/\H p.1=none/\p.1≠X.env.locals/\p.1∉X.fs/\∀v,p.2.data ≠ .cell v
 hok:HOk X.prog X.w H s.heap
 len:σ.length=X.N.length
section
variable  {X:Cx}{pins:List (Addr×Obj)}{σ:List (Option V)}{H H':Hp}{s:xh}{h':Heap}
theorem Cx.Ok.nofr (ok:X.Ok){b:Addr}{o:Obj}(e:X.base.get? b=some o):b∉X.fs:=λhb=>by
 have:=(ok.funs.mem hb).1
 rw[e] at this;cases this
theorem Inv.bs (I:Inv X pins σ H s):∀b o,X.base.get? b=some o->s.heap.get? b=some o/\H b=none:=λb o e =>
 ⟨I.base.keep b o (I.ok.bs b o e).1 (I.ok.bs b o e).2 (I.ok.nofr e) (I.ok.noex b o e),I.base.free b o (I.ok.bs b o e).1 (I.ok.bs b o e).2 (I.ok.noex b o e)⟩
theorem Inv.bk (I:Inv X pins σ H s):∀b o,X.base.get? b=some o->s.heap.get? b=some o:=λb o e=>(I.bs b o e).1
theorem Inv.mod (I:Inv X pins σ H s):Mod X.K X.mg X.base:=I.ok.mod
theorem Inv.kIn (I:Inv X pins σ H s):X.K.In s.heap:=I.ok.mod.kin.keeps I.bk
theorem Inv.lt (I:Inv X pins σ H s):X.env.locals<s.heap.objs.size:=let ⟨_,hn,_⟩:=I.loc;hn.lt
theorem Inv.sz (I:Inv X pins σ H s):X.s₀.heap.objs.size<=s.heap.objs.size:=ye I.ok.above (Ak I.lt)
theorem Inv.uV (I:Inv X pins σ H s){a:Addr}(h:s.heap.objs.size<=a):a∉X.fs:=λhb=>by
 obtain ⟨_,o,ho,_⟩:=I.ok.funs.mem hb
 exact absurd (xH (xt ho) (ye I.sz h)) (yt _)
theorem Inv.cne (I:Inv X pins σ H s):∀x c,X.env.cells.lookup x=some c->c≠X.env.locals:=λx c e z=>by
 obtain ⟨v,o,ho,hd⟩:=I.cell x c e
 obtain ⟨m,⟨o',es,ep,ho',hd',_⟩,_⟩:=I.loc
 rw[z,ho'] at ho;cases ho;rw[hd'] at hd;cases hd
theorem Inv.funs (I:Inv X pins σ H s):s.heap.FunFrames X.base X.outer:=by
 have all:∀(l:List Env),(∀b∈frs l,b∈X.fs)->X.s₀.heap.FunFrames X.base l->s.heap.FunFrames X.base l:=by
  intro l
  induction l with
  | nil=>intro _ _;trivial
  | cons env r ih =>
   intro hs hl
   obtain ⟨hk,⟨L,o,hf,hn,ho,hd⟩,hr⟩:=hl
   have hL:L∈X.fs:=hs L (by unfold frs;rw[AE,hf];exact xN)
   obtain ⟨sl,e⟩:=I.base.slot L o ho (I.ok.frf L hL) hL λz=>I.ok.exfs L z hL
   exact ⟨hk,⟨L,_,hf,hn,e,hd⟩,ih (λb hb=>hs b (by unfold frs;rw[AE,hf];exact xR _ hb)) hr⟩
 exact all X.outer (λ_ hb=>hb) I.ok.funs
theorem Inv.stack (I:Inv X pins σ H s):s.heap.FunFrames X.base X.stack:=by
 rcases I.ok.stk with e | ⟨e,hf⟩
 ·rw[e];exact I.funs
 ·rw[e]
  obtain ⟨m,hn,_⟩:=I.loc
  refine .cons (by rw[I.ok.kind];decide) hf hn ?_ I.funs
  exact Heap.get?_none_of_le (ye I.ok.bsz I.ok.above)
theorem Inv.kD (I:Inv X pins σ H s):∀b∈frs X.stack,b∈X.env.locals :: X.fs:=λb hb=>by
 rcases I.ok.stk with e | ⟨e,hf⟩
 ·rw[e] at hb;exact xR _ hb
 ·rw[e] at hb
  unfold frs at hb
  rw[AE,hf] at hb
  exact hb
theorem Inv.oi (I:Inv X pins σ H s):∀b∈frs X.stack,H b=none:=λb hb=>by
 rcases xK.mp (I.kD b hb) with e | hb
 ·rw[e];exact I.free
 ·obtain ⟨_,o,ho,_⟩:=I.ok.funs.mem hb
  exact I.base.free b o ho (I.ok.frf b hb) λz=>I.ok.exfs b z hb
theorem Inv.step {g':Array GenState}{t':Nat}{d':Drawn}{ch:List Addr}(I:Inv X pins σ H s)
  (hch:∀b∈ch,(b∈X.ex\/X.s₀.heap.objs.size<=b)/\b≠X.env.locals/\(∀x c,X.env.cells.lookup x=some c->c≠b)/\∀p∈X.pn++pins,p.1≠b)
  (keep:∀b o,b≠X.env.locals->b∉X.fs->b∉ch->s.heap.get? b=some o->H b=none->h'.get? b=some o)
  (slot:∀b o,b≠X.env.locals->b∈X.fs->b∉ch->s.heap.get? b=some o->H b=none->∃sl,h'.get? b=some { o with slots:=sl }) (free:∀b o,b∉ch->s.heap.get? b=some o->H b=none->H' b=none)
  (there:∀b o,b∉ch->s.heap.get? b=some o->∃o',h'.get? b=some o')
  (tups:∀b xs,H b=some (.tup xs)->H' b=some (.tup xs)) (frzs:∀b o u,H b=some (.frz o u)->H' b=some (.frz o u)) (tbls:∀b ps,H b=some (.tbl ps)->∃more,H' b=some (.tbl (ps++more)))
  (ns:∀m,s.heap.Ns X.env.locals m->h'.Ns X.env.locals m) (hok:HOk X.prog X.w H' h') (hg:AllBare g') :
  Inv X pins σ H' { s with heap:=h',gens:=g',drawn:=d',toks:=t' }:=by
 have neL:∀b o,X.s₀.heap.get? b=some o->b≠X.env.locals:=λb o e=>xF (xH (xt e) I.ok.above)
 have neC:∀b o,X.s₀.heap.get? b=some o->b∉X.ex->b∉ch:=λb o e hx hb=>by
  rcases (hch b hb).1 with z | z
  ·exact hx z
  ·exact absurd (xH (xt e) z) (yt _)
 have cellK:∀x c,X.env.cells.lookup x=some c->∀v,s.heap.IsCell c v->h'.IsCell c v:=λx c e v ⟨o,ho,hd⟩=>by
  have nch:c∉ch:=λz=>(hch c z).2.2.1 x c e rfl
  by_cases hc:c∈X.fs
  ·obtain ⟨sl,q⟩:=slot c o (I.cne x c e) hc nch ho (I.freeC x c e)
   exact ⟨_,q,hd⟩
  ·exact ⟨o,keep c o (I.cne x c e) hc nch ho (I.freeC x c e),hd⟩
 refine ⟨I.ok,I.os,hg,⟨λb o e n hb hx =>?_,λb o e n hb hx =>?_,λb o e n hx =>?_,λb o e hx =>?_,λb xs e=>tups b xs (I.base.tups b xs e),λb o xs e=>frzs b o xs (I.base.frzs b o xs e),λb ps e =>?_⟩,?_,λx c e =>?_,?_,λx c e =>?_,λp hp =>?_,hok,I.len⟩
 ·exact keep b o (neL b o e) hb (neC b o e hx) (I.base.keep b o e n hb hx) (I.base.free b o e n hx)
 ·obtain ⟨sl,e1⟩:=I.base.slot b o e n hb hx
  obtain ⟨sl',e2⟩:=slot b _ (neL b o e) hb (neC b o e hx) e1 (I.base.free b o e n hx)
  exact ⟨sl',e2⟩
 ·obtain ⟨o',e1⟩:=I.base.there b o e hx
  exact free b o' (neC b o e hx) e1 (I.base.free b o e n hx)
 ·obtain ⟨o',e1⟩:=I.base.there b o e hx
  exact there b o' (neC b o e hx) e1
 ·obtain ⟨m1,e1⟩:=I.base.tbls b ps e
  obtain ⟨m2,e2⟩:=tbls b _ e1
  exact ⟨m1++m2,by rw[e2,Array.append_assoc]⟩
 ·obtain ⟨m,hn,hl⟩:=I.loc
  refine ⟨m,ns m hn,λi x v e1 e2 e3 =>?_⟩
  obtain ⟨u,r,l⟩:=hl i x v e1 e2 e3
  refine ⟨u,r,?_⟩
  rcases l with l | ⟨k,c,e,z⟩
  ·exact .inl l
  ·exact .inr ⟨k,c,e,cellK x c e _ z⟩
 ·obtain ⟨v,z⟩:=I.cell x c e
  exact ⟨v,cellK x c e v z⟩
 ·obtain ⟨m,⟨o,_,_,ho,_⟩,_⟩:=I.loc
  exact free _ o (λz=>(hch _ z).2.1 rfl) ho I.free
 ·obtain ⟨v,o,ho,hd⟩:=I.cell x c e
  exact free c o (λz=>(hch c z).2.2.1 x c e rfl) ho (I.freeC x c e)
 ·obtain ⟨e,n,ne,nf,d⟩:=I.pin p hp
  have nch:p.1∉ch:=λz=>(hch p.1 z).2.2.2 p hp rfl
  exact ⟨keep p.1 p.2 ne nf nch e n,free p.1 p.2 nch e n,ne,nf,d⟩
theorem Inv.un {t':Nat}(I:Inv X pins σ H s)(u:Un X.fs [] H H' s.heap h')(hok:HOk X.prog X.w H' h'):Inv X pins σ H' { s with heap:=h',toks:=t' }:=by
 obtain ⟨m,⟨o,es,ep,ho,r⟩,_⟩:=id I.loc
 obtain ⟨sl,hL⟩:=u.any ho I.free (by simp)
 exact I.step (g':=s.gens) (d':=s.drawn) (ch:=[]) (λ_ z=>nomatch z) (λb o _ hb _ e n=>u.keep b o e n hb (by simp)) (λb o _ hb _ e n=>u.slot b o e n hb (by simp)) (λb o _ e n=>u.free b o e n (by simp)) (λb o _ e=>u.there b o e (by simp)) u.tups u.frzs u.tbls (λm' hm=>by
  obtain ⟨o',es',ep',ho',r'⟩:=hm
  rw[ho] at ho';cases ho'
  exact ⟨_,es',ep',hL,r'⟩) hok I.bare
theorem Inv.call {g':Array GenState}{t':Nat}{d':Drawn}{ch:List Addr}(I:Inv X pins σ H s)(u:Un (frs X.stack) ch H H' s.heap h')(hok:HOk X.prog X.w H' h')(hg:AllBare g')
  (hch:∀b∈ch,(b∈X.ex\/X.s₀.heap.objs.size<=b)/\b≠X.env.locals/\(∀x c,X.env.cells.lookup x=some c->c≠b)/\∀p∈X.pn++pins,p.1≠b) :
  Inv X pins σ H' { s with heap:=h',gens:=g',drawn:=d',toks:=t' }:=by
 obtain ⟨m,⟨o,es,ep,ho,r⟩,_⟩:=id I.loc
 obtain ⟨sl,hL⟩:=u.any ho I.free λz=>(hch _ z).2.1 rfl
 exact I.step (ch:=ch) hch (λb o hL hb hc e n=>u.keep b o e n (λz=>(xK.mp (I.kD b z)).elim hL hb) hc) (λb o _ _ hc e n=>u.any e n hc) (λb o hc e n=>u.free b o e n hc) (λb o hc e=>u.there b o e hc) u.tups u.frzs u.tbls (λm' hm=>by
  obtain ⟨o',es',ep',ho',r'⟩:=hm
  rw[ho] at ho';cases ho'
  exact ⟨_,es',ep',hL,r'⟩) hok hg
theorem Inv.turned {t':Nat}{it:Addr}(I:Inv X pins σ H s)(k:∀b o,b≠it->s.heap.get? b=some o->h'.get? b=some o)(hn:H it=none)(hL:it≠X.env.locals)
  (h1:it∈X.ex\/X.s₀.heap.objs.size<=it) (h2:∀x c,X.env.cells.lookup x=some c->c≠it) (h3:∀p∈X.pn++pins,p.1≠it):Inv X pins σ H { s with heap:=h',toks:=t' }:=by
 have nit:∀b u,H b=some u->b≠it:=λb u e z=>by rw[z,hn] at e;cases e
 refine I.step (g':=s.gens) (d':=s.drawn) (ch:=[it]) (λb hb =>?_) (λb o _ _ hc e _=>k b o (λz=>hc (by simp[z])) e) (λb o _ _ hc e _=>⟨o.slots,k b o (λz=>hc (by simp[z])) e⟩) (λ_ _ _ _ n=>n)
  (λb o hc e=>⟨o,k b o (λz=>hc (by simp[z])) e⟩) (λ_ _ e=>e) (λ_ _ _ e=>e) (λb ps e=>⟨#[],by rw[e];simp⟩) (λm hm =>?_) (λb u e =>?_) I.bare
 ·have e:b=it:=by simpa using hb
  subst e
  exact ⟨h1,hL,h2,h3⟩
 ·obtain ⟨o,es,ep,ho,r⟩:=hm
  exact ⟨o,es,ep,k _ o (zA hL) ho,r⟩
 ·refine (I.hok b u e).mR (λc v hc q=>k c v ?_ q) (λ_ q=>q) λ_ _ q=>q
  rcases hc with z | z
  ·rw[z];exact nit b u e
  ·exact nit c _ z
theorem Inv.tok (I:Inv X pins σ H s)(t:Nat):Inv X pins σ H { s with toks:=t }:=I.un (h':=s.heap) (t':=t) Un.refl I.hok
theorem Inv.kept {t':Nat}(I:Inv X pins σ H s)(k:∀b u,s.heap.get? b=some u->h'.get? b=some u):Inv X pins σ H { s with heap:=h',toks:=t' }:=I.un (Un.kept k) (I.hok.kept k)
theorem Inv.laid {a:Addr}{o:HO}{t':Nat}(I:Inv X pins σ H s)(k:∀b u,s.heap.get? b=some u->h'.get? b=some u)(hp:s.heap.objs.size<=a)(new:bo X.prog X.w (upd H a o) h' a o) :
  Inv X pins σ (upd H a o) { s with heap:=h',toks:=t' }:=I.un (Un.laid k hp (I.hok.fresh hp)) (I.hok.laid k hp new)
theorem Inv.write {x e:Addr}{o:HO}{t':Nat}(I:Inv X pins σ H s)(mu:Mut (H x))(he:e=x\/H e=some (.own x))(k:∀b u,b≠e->s.heap.get? b=some u->h'.get? b=some u)(heo:∃u,h'.get? e=some u)
  (new:bo X.prog X.w (upd H x o) h' x o):Inv X pins σ (upd H x o) { s with heap:=h',toks:=t' }:=I.un (Un.write mu he k heo) (I.hok.write mu he k heo new)
theorem Inv.gh {pins':List (Addr×Obj)}(I:Inv X pins σ H s)(h:∀p∈pins',s.heap.get? p.1=some p.2/\H p.1=none/\p.1≠X.env.locals/\p.1∉X.fs/\∀v,p.2.data ≠ .cell v):Inv X pins' σ H s :=
 ⟨I.ok,I.os,I.bare,I.base,I.loc,I.cell,I.free,I.freeC,λp hp=>(xx.mp hp).elim (λz=>I.pin p (yQ _ z)) (h p),I.hok,I.len⟩
theorem lH {N:List Str}(hN:N.Nodup){i j:Nat}{x:Str}(a:N[i]? = some x)(b:N[j]? = some x):i=j:=by
 obtain ⟨h1,e1⟩:=xv.mp a
 obtain ⟨h2,e2⟩:=xv.mp b
 exact (List.getElem_inj hN).mp (e1.trans e2.symm)
theorem pL {M:Model}{A:yh}{E:xb->xh->Prop}{i:Nat}{x:Str}{v:V}{u:xb}{Q:Unit->xh->Prop}(I:Inv X pins σ H s)(hN:X.N.Nodup)(hi:X.N[i]? = some x)(hx:Loc X.env.scope x)(r:RelV v u)
  (h:∀s',Inv X pins (σ.set i (some v)) H s'->(∃a,Heap.SameBut a s.heap s'.heap/\(a=X.env.locals\/X.env.cells.lookup x=some a))->Q () s') (hf:X.fn x=true\/X.env.scope.names.lookup x=some .local:=by first | exact .inl rfl | exact .inr rfl | assumption):xM M A (storeName X.env x u) Q E s:=by
 obtain ⟨m,hn,hl⟩:=id I.loc
 have hcls:(X.env.scope.kind == .class || (X.env.scope.kind == .module && X.env.locals != X.env.globals))=false:=by rw[I.ok.kind];rfl
 have hiσ:i<σ.length:=by rw[I.len];exact (xv.mp hi).1
 have cne:=I.cne
 have tracked:∀{a:Addr} {h':Heap},(∃o,s.heap.get? a=some o/\H a=none)->Heap.SameBut a s.heap h'->HOk X.prog X.w H h':=λ{a h'} ha hs b ob e=>by
  obtain ⟨_,_,hfree⟩:=ha
  refine (I.hok b ob e).mR (λc w' hc q=>(hs.2 c ?_).trans q) (λ_ q=>q) λ_ _ q=>q
  rintro rfl
  rcases hc with rfl | hc
  ·rw[hfree] at e;cases e
  ·rw[hfree] at hc;cases hc
 rcases hx with hk | hk
 ·refine wpAny_storeName_local hk hn (λh' hn' hs =>?_) hcls
  obtain ⟨oL,_,_,hoL,_⟩:=id hn
  refine h _ ⟨I.ok,I.os,I.bare,⟨λb o e n hb hx =>?_,λb o e n hb hx =>?_,I.base.free,λb o e hx =>?_,I.base.tups,I.base.frzs,I.base.tbls⟩,⟨_,hn',λj y v' e1 e2 e3 =>?_⟩,λy c e =>?_,I.free,I.freeC,λp hp =>?_,tracked ⟨oL,hoL,I.free⟩ hs,by simpa using I.len⟩ ⟨_,hs,.inl rfl⟩
  ·exact (hs.2 b (xF (xH (xt e) I.ok.above))).trans (I.base.keep b o e n hb hx)
  ·obtain ⟨sl,e1⟩:=I.base.slot b o e n hb hx
   exact ⟨sl,(hs.2 b (xF (xH (xt e) I.ok.above))).trans e1⟩
  ·obtain ⟨o',e1⟩:=I.base.there b o e hx
   exact ⟨o',(hs.2 b (xF (xH (xt e) I.ok.above))).trans e1⟩
  ·by_cases hj:j=i
   ·subst hj
    rw[hi] at e1;cases e1
    rw[A5 hiσ] at e2
    cases e2
    exact ⟨u,r,.inl ⟨hk,by simp⟩⟩
   ·rw[CY (zA hj)] at e2
    obtain ⟨u',r',q⟩:=hl j y v' e1 e2 e3
    refine ⟨u',r',?_⟩
    rcases q with ⟨k,e⟩ | ⟨k,c,e,z⟩
    ·refine .inl ⟨k,?_⟩
     have:y≠x:=λe=>hj (lH hN e1 (e ▸ hi))
     simp[this,e]
    ·exact .inr ⟨k,c,e,z.sameBut hs (cne y c e)⟩
  ·obtain ⟨w',z⟩:=I.cell y c e
   exact ⟨w',z.sameBut hs (cne y c e)⟩
  ·obtain ⟨e,n,ne,nf,d⟩:=I.pin p hp
   exact ⟨(hs.2 p.1 ne).trans e,n,ne,nf,d⟩
 ·have hfn:X.fn x=true:=by
   rcases hf with z | z
   ·exact z
   ·rw[z] at hk;cases hk
  obtain ⟨c,hc⟩:=I.ok.has x (.inl hk)
  obtain ⟨w',z⟩:=I.cell x c hc
  refine wpAny_storeName_cell I.ok.kind hk hc z (λh' hc' hs =>?_)
  obtain ⟨oc,hoc,hocd⟩:=id z
  refine h { s with heap:=h' } ⟨I.ok,I.os,I.bare,⟨λb o e n hb hx =>?_,λb o e n hb hx =>?_,I.base.free,λb o e hx =>?_,I.base.tups,I.base.frzs,I.base.tbls⟩,⟨m,hn.sameBut hs (zA (cne x c hc)),λj y v' e1 e2 e3 =>?_⟩,λy c' e =>?_,I.free,I.freeC,λp hp =>?_,tracked ⟨oc,hoc,I.freeC x c hc⟩ hs,by simpa using I.len⟩ ⟨c,hs,.inr hc⟩
  ·exact (hs.2 b (xF (xH (xt e) (I.ok.cab x c hfn hc)))).trans (I.base.keep b o e n hb hx)
  ·obtain ⟨sl,e1⟩:=I.base.slot b o e n hb hx
   exact ⟨sl,(hs.2 b (xF (xH (xt e) (I.ok.cab x c hfn hc)))).trans e1⟩
  ·obtain ⟨o',e1⟩:=I.base.there b o e hx
   exact ⟨o',(hs.2 b (xF (xH (xt e) (I.ok.cab x c hfn hc)))).trans e1⟩
  ·by_cases hj:j=i
   ·subst hj
    rw[hi] at e1;cases e1
    rw[A5 hiσ] at e2
    cases e2
    exact ⟨u,r,.inr ⟨.inl hk,c,hc,hc'⟩⟩
   ·rw[CY (zA hj)] at e2
    obtain ⟨u',r',q⟩:=hl j y v' e1 e2 e3
    refine ⟨u',r',?_⟩
    rcases q with q | ⟨k,c',e,z'⟩
    ·exact .inl q
    ·refine .inr ⟨k,c',e,z'.sameBut hs ?_⟩
     rintro rfl
     exact hj (lH hN e1 (I.ok.inj _ _ _ e hc ▸ hi))
  ·by_cases hcc:c'=c
   ·subst hcc;exact ⟨_,hc'⟩
   ·obtain ⟨w2,z2⟩:=I.cell y c' e
    exact ⟨w2,z2.sameBut hs hcc⟩
  ·obtain ⟨e,n,ne,nf,d⟩:=I.pin p hp
   refine ⟨(hs.2 p.1 ?_).trans e,n,ne,nf,d⟩
   intro q
   rw[q,hoc] at e
   have q':oc=p.2:=x9 e
   exact d w' (by rw[<- q'];exact hocd)
theorem lI {M:Model}{A:yh}{E:xb->xh->Prop}{i:Nat}{x:Str}{v:V}{u:xb}{Q:Unit->xh->Prop}(I:Inv X pins σ H s)(hN:X.N.Nodup)(hi:X.N[i]? = some x)(hx:Loc X.env.scope x)(r:RelV v u)
  (h:∀s',Inv X pins (σ.set i (some v)) H s'->Q () s') (hf:X.fn x=true\/X.env.scope.names.lookup x=some .local:=by first | exact .inl rfl | exact .inr rfl | assumption):xM M A (storeName X.env x u) Q E s :=
 pL I hN hi hx r (λs' I' _=>h s' I') hf
theorem Inv.vU {s':xh}{ch:List Addr}(I:Inv X pins σ H s)(ho:s'.os=s.os)(u:Un (frs X.stack) ch H H' s.heap s'.heap)(hok:HOk X.prog X.w H' s'.heap)(hg:AllBare s'.gens)
  (hch:∀b∈ch,(b∈X.ex\/X.s₀.heap.objs.size<=b)/\b≠X.env.locals/\(∀x c,X.env.cells.lookup x=some c->c≠b)/\∀p∈X.pn++pins,p.1≠b):Inv X pins σ H' s':=by
 obtain ⟨h',g',d',t',o'⟩:=s'
 have e:o'=s.os:=ho
 subst e
 exact I.call (g':=g') (t':=t') (d':=d') u hok hg hch
end
abbrev XK:=xb->Option Addr->Hp->Prop
abbrev St:=List (Option V)
abbrev VK:=V->Hp->Prop
abbrev TE:=St->Hp->VK->Prop
abbrev TT:=St->Hp->(Bool->Hp->Prop)->Prop
abbrev TA:=St->Hp->(List V->Hp->Prop)->Prop
structure Ends where
 nx:St->Hp->Prop
 rt:VK
 bk:St->Hp->Prop:=λ_ _=>False
 ct:St->Hp->Prop:=λ_ _=>False
abbrev TS:=Ends->St->Hp->Prop
def EP (X:Cx)(pins:List (Addr×Obj))(σ:St)(Q:VK)(u:xb)(s':xh):Prop:=∃v H',Inv X pins σ H' s'/\RelV v u/\Q v H'
def TP (X:Cx)(pins:List (Addr×Obj))(σ:St)(Q:Bool->Hp->Prop)(b:Bool)(s':xh):Prop:=∃H',Inv X pins σ H' s'/\Q b H'
def AP (X:Cx)(pins:List (Addr×Obj))(σ:St)(Q:List V->Hp->Prop)(us:List xb)(s':xh):Prop:=∃vs H',Inv X pins σ H' s'/\Vals vs us/\Q vs H'
def SP (X:Cx)(pins:List (Addr×Obj))(D:Ends)(f:Flow)(s':xh):Prop :=
 match f with
 | .next=>∃σ' H',Inv X pins σ' H' s'/\D.nx σ' H'
 | .brk=>∃σ' H',Inv X pins σ' H' s'/\D.bk σ' H'
 | .cont=>∃σ' H',Inv X pins σ' H' s'/\D.ct σ' H'
 | .ret u=>∃v σ' H',Inv X pins σ' H' s'/\RelV v u/\D.rt v H'
def PE (X:Cx)(e:Expr)(t:TE):Prop :=
 ∀(pins:List (Addr×Obj)) (s:xh) (σ:St) (H:Hp) (Q:VK),Inv X pins σ H s->t σ H Q->xM (xT X.prog X.w) X.A (eval e X.env) (EP X pins σ Q) X.xe s
def PT (X:Cx)(e:Expr)(t:TT):Prop :=
 ∀(pins:List (Addr×Obj)) (s:xh) (σ:St) (H:Hp) (Q:Bool->Hp->Prop),Inv X pins σ H s->t σ H Q->xM (xT X.prog X.w) X.A (isTrue e X.env (eval e X.env)) (TP X pins σ Q) X.xe s
def PW (X:Cx)(e:Expr)(t:TT):Prop :=
 ∀(whole:Sem xb) (pins:List (Addr×Obj)) (s:xh) (σ:St) (H:Hp) (Q:Bool->Hp->Prop),Inv X pins σ H s->t σ H Q->xM (xT X.prog X.w) X.A (isTrue e X.env whole) (TP X pins σ Q) X.xe s
theorem PW.pt {X:Cx}{e:Expr}{t:TT}(h:PW X e t):PT X e t:=h _
def PA (X:Cx)(es:List Expr)(t:TA):Prop :=
 ∀(pos:Pos) (pins:List (Addr×Obj)) (s:xh) (σ:St) (H:Hp) (Q:List V->Hp->Prop),Inv X pins σ H s->t σ H Q->xM (xT X.prog X.w) X.A (spliced (C4 pos (yO es X.env))) (AP X pins σ Q) X.xe s
def PS (X:Cx)(st:Stmt)(t:TS):Prop :=
 ∀(pins:List (Addr×Obj)) (s:xh) (σ:St) (H:Hp) (D:Ends),Inv X pins σ H s->t D σ H->xM (xT X.prog X.w) X.A (exec st X.env) (SP X pins D) X.xe s
def PSs (X:Cx)(st:List Stmt)(t:TS):Prop :=
 ∀(pins:List (Addr×Obj)) (s:xh) (σ:St) (H:Hp) (D:Ends),Inv X pins σ H s->t D σ H->xM (xT X.prog X.w) X.A (execs st X.env) (SP X pins D) X.xe s
theorem thn {α:Type}{t:Sem α}{Q Q':α -> xh->Prop}{M:Model}{A:yh}{E:xb->xh->Prop}{s:xh}(h:xM M A t Q E s)(hQ:∀a s,Q a s->Q' a s):xM M A t Q' E s:=zX h hQ λ_ _ x=>x
open PySem PySem.Spec PyProof.Rows
section
variable  {X:Cx}
theorem bin {a b:Expr}{ta tb:TE}(ha:PE X a ta)(hb:PE X b tb){pins:List (Addr×Obj)}{s:xh}{σ:St}{H:Hp}{R:V->V->Hp->Prop}(I:Inv X pins σ H s)(h:ta σ H λx H1=>tb σ H1 λy H2=>R x y H2)
  {α:Type} {Q:α -> xh->Prop} {f:xb->xb->Sem α}
  (hf:∀v u s2 x y H2,Inv X pins σ H2 s2->RelV x v->RelV y u->R x y H2->xM (xT X.prog X.w) X.A (f v u) Q X.xe s2) :
  xM (xT X.prog X.w) X.A (eval a X.env) (λv s₁=>xM (xT X.prog X.w) X.A (eval b X.env) (λu s₂=>xM (xT X.prog X.w) X.A (f v u) Q X.xe s₂) X.xe s₁) X.xe s:=by
 refine thn (ha pins s σ H _ I h) λv s1 ⟨x,H1,I1,r1,q1⟩ =>?_
 refine thn (hb pins s1 σ H1 _ I1 q1) λu s2 ⟨y,H2,I2,r2,q2⟩ =>?_
 exact hf v u s2 x y H2 I2 r1 r2 q2
def vV (i:Nat):TE:=λσ H Q=>∃v,σ[i]? = some (some v)/\Q v H
def tC (v:V):TE:=λ_ H Q=>Q v H
theorem uW {i:Nat}{x:Str}{pos:Pos}(hN:X.N[i]? = some x)(hv:Vis X.env.scope x)(hd:(x == ("__debug__" : Str))=false:=by decide)(hcd:(x == ("__classdict__" : Str))=false:=by decide):PE X (.Name x pos) (vV i):=by
 intro pins s σ H Q I h
 obtain ⟨v,e,h⟩:=h
 obtain ⟨m,hn,hl⟩:=I.loc
 obtain ⟨u,r,l⟩:=hl i x v hN e hv
 have fin:EP X pins σ Q u s:=⟨v,H,I,r,h⟩
 rcases l with ⟨hk,hm⟩ | ⟨hk,c,hc,hcell⟩
 ·exact Ek (wpAny_loadName_local I.ok.kind hk hn hm fin) hd
 ·rcases hk with hk | hk
  ·exact Ek (wpAny_loadName_cell I.ok.kind hk hc hcell fin) hd
  ·exact Ek (wpAny_loadName_free I.ok.kind hk hc hcell fin hcd) hd
theorem ag {i j pos}:PE X (.Constant (.int i) j pos) (tC (.int i)):=λ_ _ _ H _ I h=>wpAny_Constant_int ⟨.int i,H,I.tok _,⟨_,rfl⟩,h⟩
theorem lJ {b j pos}:PE X (.Constant (.bool b) j pos) (tC (.bl b)):=λ_ _ _ H _ I h=>Constant_bool ⟨.bl b,H,I,rfl,h⟩
theorem eN {j pos}:PE X (.Constant .none j pos) (tC .non):=λ_ _ _ H _ I h=>Constant_none ⟨.non,H,I,rfl,h⟩
theorem aU {x j pos}:PE X (.Constant (.str x) j pos) (tC (.str x)):=λ_ _ _ H _ I h=>Calls.Constant_str ⟨.str x,H,I.tok _,⟨_,rfl⟩,h⟩
def Gl (X:Cx)(x:Str):Prop:=X.env.kindOf x=some .globalImplicit
theorem oj {E:xb->xh->Prop}{pins:List (Addr×Obj)}{s:xh}{σ:St}{H:Hp}{x:Str}{u:xb}{pos:Pos}{Q:xb->xh->Prop}(I:Inv X pins σ H s)(hg:Gl X x)(hm:X.mg x=some u)(h:Q u s)
  (hd:(x == ("__debug__" : Str))=false:=by decide):xM (xT X.prog X.w) X.A (eval (.Name x pos) X.env) Q E s :=
 BB I.ok.kind hg (Calls.loadGlobal_global (by rw[I.ok.glob];exact I.mod.glob.keeps I.bk) hm h) hd
theorem fN {E:xb->xh->Prop}{pins:List (Addr×Obj)}{s:xh}{σ:St}{H:Hp}{x:Str}{u:xb}{pos:Pos}{Q:xb->xh->Prop}(I:Inv X pins σ H s)(hg:Gl X x)(hm:X.mg x=none)(hv:yo x=some u)(h:Q u s)
  (hn:x ≠ "__name__" := by decide) (hd:(x == ("__debug__" : Str))=false:=by decide):xM (xT X.prog X.w) X.A (eval (.Name x pos) X.env) Q E s:=by
 obtain ⟨mb,h1,h2⟩:=I.mod.blt
 exact BB I.ok.kind hg (Calls.loadGlobal_builtin (by rw[I.ok.glob];exact I.mod.glob.keeps I.bk) hm (by rw[I.ok.blt];exact h1.keeps I.bk) ((h2 x hn).trans hv) h) hd
theorem sN {x:Str}{v:V}{u:xb}{pos:Pos}(hg:Gl X x)(hm:X.mg x=some u)(r:RelV v u)(hd:(x == ("__debug__" : Str))=false:=by decide):PE X (.Name x pos) (tC v) :=
 λ_ _ _ H _ I h=>oj I hg hm ⟨v,H,I,r,h⟩ hd
theorem kE {x:Str}{v:V}{u:xb}{pos:Pos}(hg:Gl X x)(hm:X.mg x=none)(hv:yo x=some u)(r:RelV v u)(hn:x ≠ "__name__" := by decide)(hd:(x == ("__debug__" : Str))=false:=by decide):PE X (.Name x pos) (tC v) :=
 λ_ _ _ H _ I h=>fN I hg hm hv ⟨v,H,I,r,h⟩ hn hd
variable  {a b:Expr}{ta tb:TE}{pos:Pos}
def PC (X:Cx)(op:CmpOp)(a b:Expr)(t:TE):Prop :=
 ∀(pins:List (Addr×Obj)) (s:xh) (σ:St) (H:Hp) (Q:VK),Inv X pins σ H s->t σ H Q →
  xM (xT X.prog X.w) X.A (eval a X.env) (λv s₁=>xM (xT X.prog X.w) X.A (eval b X.env) (λu s₂=>xM (xT X.prog X.w) X.A (yI op v u) (EP X pins σ Q) X.xe s₂) X.xe s₁) X.xe s
theorem qQ (b:Expr){op:CmpOp}(h:op ≠ .In)(h2:op ≠ .NotIn):behindInMarks op b=false:=by
 have e1:(op == CmpOp.In)=false:=by cases op <;> first | rfl | exact absurd rfl h
 have e2:(op == CmpOp.NotIn)=false:=by cases op <;> first | rfl | exact absurd rfl h2
 cases b <;> simp[behindInMarks,e1,e2]
def tB (t:TE):TT:=λσ H Q=>t σ H λx H1=>∃c,x = .bl c/\Q c H1
theorem pt_cmp {op:CmpOp}{t:TE}(h:PC X op a b t)(h1:behindInMarks op b=false:=by first | exact qQ _ (by decide) (by decide) | rfl):PT X (.Compare a [op] [b] pos) (tB t):=by
 intro pins s σ H Q I hw
 refine CP (thn (h pins s σ H _ I hw) λv s1 h1=>thn h1 λu s2 h2=>thn h2 λc s3 ⟨x,H1,I1,r1,q1⟩ =>?_) h1
 obtain ⟨d,rfl,q⟩:=q1
 cases r1
 exact yV ⟨H1,I1,q⟩
theorem bY {e:Expr}{t:TE}(h:PE X e t)(he:∀whole,isTrue e X.env whole=(do let v ← whole;standAt e.pos;DK [v] (truthy v)):=by intro _;rfl):PT X e (tB t):=by
  intro pins s σ H Q I hw
  refine isTrue_plain (thn (h pins s σ H _ I hw) λv s1 ⟨x,H1,I1,r1,q1⟩ =>?_) (he _)
  obtain ⟨d,rfl,q⟩:=q1
  cases r1
  exact yV ⟨H1,I1,q⟩
variable  {tA tB':TT}{rest:List Expr}
def tAnd (t u:TT):TT:=λσ H Q=>t σ H λc H1=>if c=true then u σ H1 Q else Q false H1
def tOr (t u:TT):TT:=λσ H Q=>t σ H λc H1=>if c=true then Q true H1 else u σ H1 Q
def tNot (t:TT):TT:=λσ H Q=>t σ H λc H1=>Q (!c) H1
theorem cg (ha:PT X a tA):PW X (.BoolOp .And [a] pos) tA:=by
 intro wh pins s σ H Q I h
 refine isTrue_and (thn (ha pins s σ H Q I h) λc s1 e =>?_)
 cases c with
 | true=>exact isTrue_and_nil e
 | false=>exact e
theorem cx (ha:PT X a tA):PW X (.BoolOp .Or [a] pos) tA:=by
 intro wh pins s σ H Q I h
 refine isTrue_or (thn (ha pins s σ H Q I h) λc s1 e =>?_)
 cases c with
 | false=>exact isTrue_or_nil e
 | true=>exact e
theorem cK (ha:PT X a tA)(hb:PW X (.BoolOp .And (b :: rest) pos) tB'):PW X (.BoolOp .And (a :: b :: rest) pos) (tAnd tA tB'):=by
 intro wh pins s σ H Q I h
 refine isTrue_and (thn (ha pins s σ H _ I h) λc s1 ⟨H1,I1,q1⟩ =>?_)
 cases c with
 | true=>exact hb wh pins s1 σ H1 Q I1 q1
 | false=>exact ⟨H1,I1,q1⟩
theorem ck (ha:PT X a tA)(hb:PW X (.BoolOp .Or (b :: rest) pos) tB'):PW X (.BoolOp .Or (a :: b :: rest) pos) (tOr tA tB'):=by
 intro wh pins s σ H Q I h
 refine isTrue_or (thn (ha pins s σ H _ I h) λc s1 ⟨H1,I1,q1⟩ =>?_)
 cases c with
 | true=>exact ⟨H1,I1,q1⟩
 | false=>exact hb wh pins s1 σ H1 Q I1 q1
theorem fO (ha:PT X a tA):PT X (.UnaryOp .Not a pos) (tNot tA):=by
 intro pins s σ H Q I h
 exact isTrue_not (ha pins s σ H (λc H1=>Q (!c) H1) I h)
def vW (ta tb:TE):TE:=λσ H Q=>ta σ H λx H1=>∃c,x = .bl c/\if c=true then tb σ H1 Q else Q (.bl false) H1
def vX (ta:TE):TE:=λσ H Q=>ta σ H λx H1=>∃c,x = .bl c/\Q (.bl (!c)) H1
theorem qR {op}{t:TE}(h:PE X a t):PE X (.BoolOp op [a] pos) t:=λpins s σ H Q I hw=>BoolOp_one (h pins s σ H Q I hw)
theorem mS (ha:PE X a ta)(hb:PE X (.BoolOp .And (b :: rest) pos) tb):PE X (.BoolOp .And (a :: b :: rest) pos) (vW ta tb):=by
 intro pins s σ H Q I h
 refine BoolOp_and (thn (ha pins s σ H _ I h) λv s1 ⟨x,H1,I1,r1,q1⟩ =>?_)
 obtain ⟨c,rfl,q1⟩:=q1
 cases r1
 refine yV ?_
 cases c with
 | true=>exact hb pins s1 σ H1 Q I1 q1
 | false=>exact ⟨.bl false,H1,I1,rfl,q1⟩
theorem uZ (ha:PE X a ta):PE X (.UnaryOp .Not a pos) (vX ta):=by
 intro pins s σ H Q I h
 refine UnaryOp_ (thn (ha pins s σ H _ I h) λv s1 ⟨x,H1,I1,r1,q1⟩ =>?_)
 obtain ⟨c,rfl,q1⟩:=q1
 cases r1
 exact not_of (yV ⟨.bl (!c),H1,I1,rfl,q1⟩)
end
open PySem PySem.Spec PyProof.Rows
def SqL (K:wY)(H:Hp)(a:Addr)(xs:List V):Prop :=
 Rd H a (.lst xs) ∨
  ∃(o:Obj) (its:Array xb) (n:Nat),K.lookup a=some o/\o.cls = .type "list" /\ o.dict=none/\o.data = .seq its n/\its.size<=xf/\Vals xs its.toList
def SqT (K:wY)(H:Hp)(a:Addr)(xs:List V):Prop :=
 Rd H a (.tup xs) ∨
  ∃(o:Obj) (its:Array xb) (n:Nat),K.lookup a=some o/\o.cls = .type "tuple" /\ o.data = .seq its n/\its.size<=xf/\Vals xs its.toList
def absV:xb->Option V
 | .none=>some .non
 | .bool b=>some (.bl b)
 | .int i _=>some (.int i)
 | .str x _=>some (.str x)
 | .bytes b _=>some (.byt b)
 | .float b _=>some (.flt b)
 | .ref a=>some (.ref a)
 | .type n=>some (.ty n)
 | _=>none
theorem RelV.abs {x:V}{u:xb}(r:RelV x u):absV u=some x:=by
 cases x with
 | non=>cases r;rfl
 | bl _=>cases r;rfl
 | int _=>obtain ⟨t,rfl⟩:=r;rfl
 | str _=>obtain ⟨t,rfl⟩:=r;rfl
 | byt _=>obtain ⟨t,rfl⟩:=r;rfl
 | flt _=>obtain ⟨t,rfl⟩:=r;rfl
 | ref _=>cases r;rfl
 | ty _=>cases r;rfl
theorem RelV.inj {x y:V}{u:xb}(r:RelV x u)(q:RelV y u):x=y:=x9 (r.abs.symm.trans q.abs)
theorem Vals.inj:∀{xs ys:List V} {us:List xb},Vals xs us->Vals ys us->xs=ys
 | _,_,_,.nil,.nil=>rfl
 | _,_,_,.cons r t,.cons r' t'=>by rw[r.inj r',Vals.inj t t']
section
variable  {X:Cx}{pins:List (Addr×Obj)}{σ:St}{H:Hp}{s:xh}{a:Addr}{xs ys:List V}
theorem SqL.of {K:wY}(h:H a=some (.lst xs)):SqL K H a xs :=.inl (.inl h)
theorem SqT.of {K:wY}(h:H a=some (.tup xs)):SqT K H a xs :=.inl (.inl h)
theorem Inv.list (I:Inv X pins σ H s)(h:SqL X.K H a xs):∃its:List xb,Vals xs its/\PlainL s.heap a its.toArray/\xs.length<=xf:=by
 rcases h with h | ⟨o,its,n,hk,hc,hd,hs,hz,r⟩
 ·obtain ⟨z,its,n,r,e⟩:=h.ok I.hok
  exact ⟨its,r,⟨_,n,e,rfl,rfl,rfl⟩,z⟩
 ·refine ⟨its.toList,r,⟨o,n,I.kIn a o hk,hc,hd,by simpa using hs⟩,?_⟩
  have e:=r.length
  simp only[xk] at e
  lia
theorem Inv.tuple (I:Inv X pins σ H s)(h:SqT X.K H a xs):∃its:List xb,Vals xs its/\IsTup s.heap a its.toArray/\xs.length<=xf:=by
 rcases h with h | ⟨o,its,n,hk,hc,hs,hz,r⟩
 ·obtain ⟨z,its,r,p⟩:=h.ok I.hok
  exact ⟨its,r,p.tup,z⟩
 ·refine ⟨its.toList,r,⟨o,I.kIn a o hk,hc,n,by simpa using hs⟩,?_⟩
  have e:=r.length
  simp only[xk] at e
  lia
theorem Inv.iN (I:Inv X pins σ H s)(h:SqL X.K H a xs)(h':SqL X.K H a ys):xs=ys:=by
 obtain ⟨its,r,⟨o,n,e,_,_,d⟩,_⟩:=I.list h
 obtain ⟨its',r',⟨o',n',e',_,_,d'⟩,_⟩:=I.list h'
 rw[e] at e';cases e'
 rw[d] at d'
 injection d' with d1 _
 have:its=its':=by simpa using congrArg Array.toList d1
 subst this
 exact r.inj r'
theorem Inv.gI (I:Inv X pins σ H s)(h:SqT X.K H a xs)(h':SqT X.K H a ys):xs=ys:=by
 obtain ⟨its,r,⟨o,e,_,n,d⟩,_⟩:=I.tuple h
 obtain ⟨its',r',⟨o',e',_,n',d'⟩,_⟩:=I.tuple h'
 rw[e] at e';cases e'
 rw[d] at d'
 injection d' with d1 _
 have:its=its':=by simpa using congrArg Array.toList d1
 subst this
 exact r.inj r'
end
abbrev Cx.jA (X:Cx)(E:xb->xh->Prop):Cx:={ X with xe:=E }
abbrev Cx.nox (X:Cx):Cx:=X.jA λ_ _=>False
theorem Cx.Ok.jA {X:Cx}(ok:X.Ok)(E:xb->xh->Prop):(X.jA E).Ok :=
 ⟨ok.mod,ok.kind,ok.glob,ok.blt,ok.above,ok.inj,ok.has,ok.cab,ok.hd,ok.frames,ok.stk,ok.exf,ok.bs,ok.bsz,ok.noex,ok.exfs,ok.funs,ok.frf⟩
theorem Cx.Ok.eO {X:Cx}{E:xb->xh->Prop}(ok:(X.jA E).Ok):X.Ok :=
 ⟨ok.mod,ok.kind,ok.glob,ok.blt,ok.above,ok.inj,ok.has,ok.cab,ok.hd,ok.frames,ok.stk,ok.exf,ok.bs,ok.bsz,ok.noex,ok.exfs,ok.funs,ok.frf⟩
section
variable  {X:Cx}{pins:List (Addr×Obj)}{σ:St}{H:Hp}{s:xh}{E:xb->xh->Prop}
theorem Inv.jA (I:Inv X pins σ H s)(E:xb->xh->Prop):Inv (X.jA E) pins σ H s:=⟨I.ok.jA E,I.os,I.bare,I.base,I.loc,I.cell,I.free,I.freeC,I.pin,I.hok,I.len⟩
theorem Inv.eO (I:Inv (X.jA E) pins σ H s):Inv X pins σ H s:=⟨I.ok.eO,I.os,I.bare,I.base,I.loc,I.cell,I.free,I.freeC,I.pin,I.hok,I.len⟩
theorem SP.eO {D:Ends}{f:Flow}{s':xh}(h:SP (X.jA E) pins D f s'):SP X pins D f s':=by
 cases f with
 | next=>obtain ⟨σ',H',I,q⟩:=h;exact ⟨σ',H',I.eO,q⟩
 | brk=>obtain ⟨σ',H',I,q⟩:=h;exact ⟨σ',H',I.eO,q⟩
 | cont=>obtain ⟨σ',H',I,q⟩:=h;exact ⟨σ',H',I.eO,q⟩
 | ret u=>obtain ⟨v,σ',H',I,r,q⟩:=h;exact ⟨v,σ',H',I.eO,r,q⟩
theorem PSs.nox {st:List Stmt}{t:TS}(h:PSs X.nox st t):PSs X st t:=λpins s σ H D I hw =>
 zX (h pins s σ H D (I.jA _) hw) (λ_ _ q=>q.eO) λ_ _ z=>False.elim z
end
section
variable  {X:Cx}{st:Stmt}{rest:List Stmt}{t u:TS}{e:Expr}{te:TE}{pos:Pos}
def vY:TS:=λD σ H=>D.nx σ H
def tSeq (t u:TS):TS:=λD σ H=>t { D with nx:=u D } σ H
theorem ax:PSs X [] vY:=λ_ _ σ H _ I h=>BA ⟨σ,H,I,h⟩
theorem ah (h1:PS X st t)(h2:PSs X rest u):PSs X (st :: rest) (tSeq t u):=by
 intro pins s σ H D I h
 refine wpAny_execs_cons (thn (h1 pins s σ H { D with nx:=u D } I h) λf s1 q =>?_)
 cases f with
 | next =>
  obtain ⟨σ',H',I',q⟩:=q
  exact h2 pins s1 σ' H' D I' q
 | ret v=>exact q
 | brk=>exact q
 | cont=>exact q
theorem ai (h1:PS X st t):PSs X [st] t:=by
 intro pins s σ H D I h
 refine wpAny_execs_cons (thn (h1 pins s σ H D I h) λf s1 q =>?_)
 cases f with
 | next=>exact BA q
 | ret v=>exact q
 | brk=>exact q
 | cont=>exact q
theorem Inv.quiet {pins:List (Addr×Obj)}{σ:St}{H:Hp}{s:xh}(I:Inv X pins σ H s):interactive X.env=false:=by simp[interactive,I.ok.kind]
def vZ (te:TE):TS:=λD σ H=>te σ H λ_ H1=>D.nx σ H1
theorem kF (he:PE X e te)(hs:swapsWith e none pos.line X.env=pure false:=by rfl):PS X (.Expr e pos) (vZ te):=by
 intro pins s σ H D I h
 exact wpAny_Expr_any (thn (he pins s σ H _ I h) λv s1 ⟨x,H1,I1,r1,q1⟩=>⟨σ,H1,I1,q1⟩) I.quiet hs
def tRet (te:TE):TS:=λD σ H=>te σ H D.rt
theorem aq (he:PE X e te):PS X (.Return (some e) pos) (tRet te):=by
 intro pins s σ H D I h
 exact wpAny_Return_some (thn (he pins s σ H _ I h) λv s1 ⟨x,H1,I1,r1,q1⟩=>⟨x,σ,H1,I1,r1,q1⟩)
def tIfS (c:TT)(t u:TS):TS:=λD σ H=>c σ H λb H1=>if b=true then t D σ H1 else u D σ H1
theorem aO {c:Expr}{a b:List Stmt}{tc:TT}(hc:PT X c tc)(ha:PSs X a t)(hb:PSs X b u):PS X (.If c a b pos) (tIfS tc t u):=by
 intro pins s σ H D I h
 refine wpAny_If (thn (hc pins s σ H _ I h) λd s1 ⟨H1,I1,q1⟩ =>?_)
 cases d with
 | true=>exact ha pins s1 σ H1 D I1 q1
 | false=>exact hb pins s1 σ H1 D I1 q1
def u5:TS:=λ_ _ _=>False
theorem gJ {sts:List Stmt}:PSs X sts u5:=λ_ _ _ _ _ _ h=>h.elim
end
abbrev TG:=V->St->Hp->(St->Hp->Prop)->Prop
abbrev TGs:=List V->St->Hp->(St->Hp->Prop)->Prop
def PG (X:Cx)(target:Expr)(t:TG):Prop :=
 ∀(pins:List (Addr×Obj)) (s:xh) (σ:St) (H:Hp) (v:V) (u:xb) (Q:St->Hp->Prop),Inv X pins σ H s->RelV v u->t v σ H Q →
  xM (xT X.prog X.w) X.A (assign target X.env u) (λ_ s'=>∃σ' H',Inv X pins σ' H' s'/\Q σ' H') X.xe s
def PGs (X:Cx)(ts:List Expr)(t:TGs):Prop :=
 ∀(pins:List (Addr×Obj)) (s:xh) (σ:St) (H:Hp) (vs:List V) (us:List xb) (Q:St->Hp->Prop),Inv X pins σ H s->Vals vs us->t vs σ H Q →
  xM (xT X.prog X.w) X.A (assignInOrder ((assignEach ts X.env).map (·.2)) us) (λ_ s'=>∃σ' H',Inv X pins σ' H' s'/\Q σ' H') X.xe s
abbrev qS:=V->V->V->Hp->(Hp->Prop)->Prop
def u6 (X:Cx)(t:qS):Prop :=
 ∀(pins:List (Addr×Obj)) (s:xh) (σ:St) (H:Hp) (o i v:V) (ov iv u:xb) (Q:Hp->Prop),Inv X pins σ H s->RelV o ov->RelV i iv->RelV v u->t o i v H Q →
  xM (xT X.prog X.w) X.A (setItem ov iv u) (λ_ s'=>∃H',Inv X pins σ H' s'/\Q H') X.xe s
abbrev TIp:=V->V->Hp->VK->Prop
def PIp (X:Cx)(op:Operator)(t:TIp):Prop :=
 ∀(pins:List (Addr×Obj)) (s:xh) (σ:St) (H:Hp) (x y:V) (v u:xb) (Q:VK),Inv X pins σ H s->RelV x v->RelV y u->t x y H Q →
  xM (xT X.prog X.w) X.A (inplaceOp op v u) (EP X pins σ Q) X.xe s
section
variable  {X:Cx}{pos:Pos}
def dD (i:Nat):TG:=λv σ H Q=>Q (σ.set i (some v)) H
theorem aD {i:Nat}{x:Str}(hN:X.N.Nodup)(hi:X.N[i]? = some x)(hx:Loc X.env.scope x)(hf:X.fn x=true\/X.env.scope.names.lookup x=some .local:=by first | exact .inl rfl | exact .inr rfl | assumption):PG X (.Name x pos) (dD i):=by
 intro pins s σ H v u Q I r h
 exact wpAny_assign_Name (lI I hN hi hx r (λs' I'=>⟨_,H,I',h⟩) hf)
def v5:TGs:=λvs σ H Q=>vs=[]/\Q σ H
def qT (t:TG)(u:TGs):TGs:=λvs σ H Q=>∃v r,vs=v :: r/\t v σ H λσ' H'=>u r σ' H' Q
theorem gi:PGs X [] v5:=by
 intro pins s σ H vs us Q I r h
 obtain ⟨e,h⟩:=h
 subst e
 cases r
 exact assignInOrder_nil ⟨σ,H,I,h⟩
theorem bQ {e:Expr}{es:List Expr}{t:TG}{u:TGs}(h1:PG X e t)(h2:PGs X es u)
  (hs:(assignEach (e :: es) X.env).map (·.2)=assign e X.env :: (assignEach es X.env).map (·.2):=by rfl):PGs X (e :: es) (qT t u):=by
 intro pins s σ H vs us Q I r h
 obtain ⟨v,vr,e1,h⟩:=h
 subst e1
 cases r with
 | cons r rr =>
  rw[hs]
  refine assignInOrder_cons (thn (h1 pins s σ H _ _ _ I r h) λ_ s1 ⟨σ1,H1,I1,q1⟩ =>?_)
  exact h2 pins s1 σ1 H1 _ _ Q I1 rr q1
def v7 (K:wY)(n:Nat)(t:TGs):TG:=λv σ H Q=>∃a xs,v = .ref a/\SqT K H a xs/\xs.length=n/\t xs σ H Q
theorem iO {es:List Expr}{k:Nat}{t:TGs}{n:Nat}(hc:X.calm=true)(h:PGs X es t)
  (hn:(assignEach es X.env).length=n:=by rfl) (hst:(assignEach es X.env).findIdx? (·.1)=none:=by rfl):PG X (.Tuple es k pos) (v7 X.K n t):=by
 intro pins s σ H v u Q I r hw
 obtain ⟨a,xs,e1,hq,hl,hw⟩:=hw
 subst e1
 cases r
 obtain ⟨its,rv,ht,hz⟩:=I.tuple hq
 refine assign_Tuple_tuple (I.ok.hd hc) ht (by simp[hn, <- hl,rv.length]) hst λh' hx =>?_
 have I1:Inv X pins σ H { s with heap:=h' }:=I.kept (t':=s.toks) λb o e=>hx b o (xF (xt e)) e
 exact h pins _ σ H xs _ Q I1 (by simpa using rv) hw
def gSub (to ti:TE)(t:qS):TG:=λv σ H Q=>to σ H λo H1=>ti σ H1 λi H2=>t o i v H2 λH3=>Q σ H3
theorem mT {o i:Expr}{to ti:TE}{t:qS}(ho:PE X o to)(hi:PE X i ti)(hs:u6 X t)
    (ha:∀v,assign (.Subscript o i pos) X.env v=(do
      let ov ← DK [v] (eval o X.env)
      let iv ← DK [v,ov] (eval i X.env)
      standAt pos
      DK [v,ov,iv] (setItem ov iv v)
      release [v,ov,iv] []):=by intro _;rfl):PG X (.Subscript o i pos) (gSub to ti t):=by
  intro pins s σ H v u Q I r h
  rw[ha]
  refine wZ (yL (thn (ho pins s σ H _ I h) λov s1 ⟨x,H1,I1,r1,q1⟩ =>?_))
  refine wZ (yL (thn (hi pins s1 σ H1 _ I1 q1) λiv s2 ⟨y,H2,I2,r2,q2⟩ =>?_))
  refine wZ (Dv (wZ (yL (thn (hs pins s2 σ H2 x y v ov iv u _ I2 r1 r2 r q2) λ_ s3 ⟨H3,I3,q3⟩ =>?_))))
  exact wpAny_release ⟨σ,H3,I3,q3⟩
def u7 (te:TE)(g:TG):TS:=λD σ H=>te σ H λx H1=>g x σ H1 D.nx
theorem iP {tg e:Expr}{te:TE}{g:TG}(he:PE X e te)(hg:PG X tg g)(hs:swapsWithSole [tg] e pos.line X.env=pure false:=by rfl)(hw:swappedStores [tg] e X.env=pure none:=by rfl)
  (h1:(assignEach [tg] X.env).map (·.2)=[assign tg X.env]:=by rfl):PS X (.Assign [tg] e pos) (u7 te g):=by
 intro pins s σ H D I h
 refine wpAny_Assign_stores (thn (he pins s σ H _ I h) λv s1 ⟨x,H1,I1,r1,q1⟩ =>?_) hs hw
 rw[h1]
 exact thn (hg pins s1 σ H1 x v _ I1 r1 q1) λ_ s2 q=>q
theorem aH {i:Nat}{x:Str}{e:Expr}{te:TE}{pos':Pos}(hN:X.N.Nodup)(hi:X.N[i]? = some x)(hx:Loc X.env.scope x)(he:PE X e te)(hs:swapsWith e (some (.Name x pos')) pos.line X.env=pure false:=by rfl)(hf:X.fn x=true\/X.env.scope.names.lookup x=some .local:=by first | exact .inl rfl | exact .inr rfl | assumption) :
  PS X (.Assign [.Name x pos'] e pos) (u7 te (dD i)):=by
 intro pins s σ H D I h
 refine wpAny_Assign_Name (thn (he pins s σ H _ I h) λv s1 ⟨y,H1,I1,r1,q1⟩ =>?_) hs
 exact lI I1 hN hi hx r1 (λs2 I2=>⟨_,H1,I2,q1⟩) hf
def v8 (to ti te:TE)(tget:V->V->Hp->VK->Prop)(tip:TIp)(tset:qS):TS:=λD σ H=>to σ H λo H1=>ti σ H1 λi H2=>tget o i H2 λx H3=>te σ H3 λy H4=>tip x y H4 λz H5=>tset o i z H5 λH6=>D.nx σ H6
def v9 (X:Cx)(t:V->V->Hp->VK->Prop):Prop :=
 ∀(pins:List (Addr×Obj)) (s:xh) (σ:St) (H:Hp) (o i:V) (ov iv:xb) (Q:VK),Inv X pins σ H s->RelV o ov->RelV i iv->t o i H Q →
  xM (xT X.prog X.w) X.A (getItem ov iv) (EP X pins σ Q) X.xe s
theorem sO {o i e:Expr}{to ti te:TE}{tget:V->V->Hp->VK->Prop}{tip:TIp}{tset:qS}{op:Operator}{tpos:Pos}(ho:PE X o to)(hi:PE X i ti)(hg:v9 X tget)(he:PE X e te)(hp:PIp X op tip)(hs:u6 X tset)
    (ha:∀ov iv new,augStore i ov iv new=(do DK [new,ov,iv] (setItem ov iv new);release [new,ov,iv] [];pure .next):=by intros;rfl):PS X (.AugAssign (.Subscript o i tpos) op e pos) (v8 to ti te tget tip tset):=by
  intro pins s σ H D I h
  refine wpAny_AugAssign_SubscriptAny (thn (ho pins s σ H _ I h) λov s1 ⟨x1,H1,I1,r1,q1⟩ =>?_) ha
  refine thn (hi pins s1 σ H1 _ I1 q1) λiv s2 ⟨x2,H2,I2,r2,q2⟩ =>?_
  refine thn (hg pins s2 σ H2 x1 x2 ov iv _ I2 r1 r2 q2) λold s3 ⟨x3,H3,I3,r3,q3⟩ =>?_
  refine thn (he pins s3 σ H3 _ I3 q3) λv s4 ⟨x4,H4,I4,r4,q4⟩ =>?_
  refine thn (hp pins s4 σ H4 x3 x4 old v _ I4 r3 r4 q4) λnew s5 ⟨x5,H5,I5,r5,q5⟩ =>?_
  exact thn (hs pins s5 σ H5 x1 x2 x5 ov iv new _ I5 r1 r2 r5 q5) λ_ s6 ⟨H6,I6,q6⟩=>⟨σ,H6,I6,q6⟩
def ipI (f:Int->Int->Int):TIp:=λx y H Q=>∃i j,x = .int i/\y = .int j/\Q (.int (f i j)) H
theorem u9:PIp X .Add (ipI λi j=>i+j):=by
 intro pins s σ H x y v u Q I r1 r2 h
 obtain ⟨i,j,e1,e2,q⟩:=h
 subst e1;subst e2
 obtain ⟨t,rfl⟩:=r1
 obtain ⟨t',rfl⟩:=r2
 exact iadd_int ⟨.int _,H,I.tok _,⟨_,rfl⟩,q⟩
end
section
variable  {X:Cx}{pos:Pos}
def qU (c:TT)(tb:TS):TS:=λD σ H=>∃W:Nat->St->Hp->Prop,(∃m,W m σ H)/\∀m σ H,W m σ H →
 c σ H λb H1=>if b=true then ∃N:St->Hp->Prop,(∀σ' H',N σ' H'->∃m',m'<m/\W m' σ' H')/\tb { D with nx:=N,ct:=N,bk:=D.nx } σ H1 else D.nx σ H1
theorem qV {c:Expr}{body:List Stmt}{tc:TT}{tb:TS}(hp:PassesOwn (xT X.prog X.w) X.A X.env X.xe)(hc:PT X c tc)(hb:PSs X body tb):PS X (.While c body [] pos) (qU tc tb):=by
 intro pins s σ H D I h
 obtain ⟨W,⟨m0,w0⟩,turn⟩:=h
 refine wpAny_While (codeAny_whileLoop (λn s'=>∃σ' H',Inv X pins σ' H' s'/\W n σ' H') ?_ m0 ⟨σ,H,I,w0⟩)
 rintro n s1 ⟨σ1,H1,I1,w1⟩
 refine zY hp (thn (hc pins s1 σ1 H1 _ I1 (turn n σ1 H1 w1)) λb s2 ⟨H2,I2,q2⟩ =>?_)
 cases b with
 | true =>
  obtain ⟨N,hN,q2⟩:=q2
  rw[if_pos rfl]
  refine zY hp (thn (hb pins s2 σ1 H2 _ I2 q2) λf s3 q3 =>?_)
  cases f with
  | next =>
   obtain ⟨σ3,H3,I3,n3⟩:=q3
   obtain ⟨m',hm,w3⟩:=hN σ3 H3 n3
   exact ⟨m',hm,σ3,H3,I3,w3⟩
  | cont =>
   obtain ⟨σ3,H3,I3,n3⟩:=q3
   obtain ⟨m',hm,w3⟩:=hN σ3 H3 n3
   exact ⟨m',hm,σ3,H3,I3,w3⟩
  | brk=>exact q3
  | ret v=>exact q3
 | false =>
  rw[if_neg xw]
  exact BA ⟨σ1,H2,I2,q2⟩
end
structure It where
 go:Nat->Hp->Prop
 yld:Nat->Hp->V->Hp->Prop
 stop:Nat->Hp->Prop
def iy (X:Cx)(pins:List (Addr×Obj))(H:Hp)(b:Addr):Prop :=
 H b=none/\b≠X.env.locals/\b∉X.fs/\(b∈X.ex\/X.s₀.heap.objs.size<=b)/\(∀x c,X.env.cells.lookup x=some c->c≠b)/\∀p∈X.pn++pins,p.1≠b
theorem Inv.pM {X:Cx}{pins:List (Addr×Obj)}{σ:St}{H H':Hp}{s:xh}{b:Addr}(I:Inv X pins σ H s)(hb:s.heap.objs.size<=b)(hn:H' b=none):iy X pins H' b:=by
 refine ⟨hn,zO (xH I.lt hb),I.uV hb,.inr (ye I.sz hb),λx c e z =>?_,λp hp z =>?_⟩
 ·obtain ⟨v,q⟩:=I.cell x c e
  exact absurd (xH q.lt (by rw[z];exact hb)) (yt _)
 ·exact absurd (xH (xt (I.pin p hp).1) (by rw[z];exact hb)) (yt _)
structure Turn (P:xA)(w:xQ)(K:wY)(tg:Expr)(J:It)(fp:List Addr)(it:Addr)(tn:Nat->Heap->Prop):Prop where
 mem:it∈fp
 obj:∀i h,tn i h->∀b∈fp,∃o,h.get? b=some o/\∀v,o.data ≠ .cell v
 keep:∀i h h',tn i h->(∀b∈fp,∀o,h.get? b=some o->h'.get? b=some o)->tn i h'
 item:∀(X:Cx),X.prog=P->X.w=w->X.K=K->X.calm=true->∀(i:Nat) (pins:List (Addr×Obj)) (s:xh) (σ:St) (H:Hp) (E:xb->xh->Prop),Inv X pins σ H s->(∀b∈fp,iy X pins H b)->tn i s.heap->J.go i H →
  xM (xT P w) X.A (pyNext (.ref it)) (λr s1=>∃u,r=some u ∧
   xM (xT P w) X.A (letOwnedTupleGo tg (.ref it) u) (λ_ s2=>∃x H',Inv X pins σ H' s2/\RelV x u/\J.yld i H x H'/\tn (i+1) s2.heap/\∀b∈fp,H' b=none) E s1) E s
 done:∀(X:Cx),X.prog=P->X.w=w->X.K=K->X.calm=true->∀(i:Nat) (pins:List (Addr×Obj)) (s:xh) (σ:St) (H:Hp) (E:xb->xh->Prop),Inv X pins σ H s->(∀b∈fp,iy X pins H b)->tn i s.heap->J.stop i H →
  xM (xT P w) X.A (pyNext (.ref it)) (λr s1=>r=none/\Inv X pins σ H s1) E s
 self:∀(A:yh) (i:Nat) (s:xh) (Q:xb->xh->Prop) (E:xb->xh->Prop),tn i s.heap->Q (.ref it) s->xM (xT P w) A (pyIter (.ref it)) Q E s
abbrev TI:=St->Hp->(It->Hp->Prop)->Prop
def PIE (X:Cx)(pins:List (Addr×Obj))(σ:St)(tg:Expr)(R:It->Hp->Prop)(itv:xb)(s2:xh):Prop :=
 ∃(it:Addr) (fp:List Addr) (tn:Nat->Heap->Prop) (J:It) (H':Hp),itv = .ref it/\Inv X pins σ H' s2/\Turn X.prog X.w X.K tg J fp it tn/\tn 0 s2.heap/\(∀b∈fp,iy X pins H' b)/\R J H'
def PI (X:Cx)(tg iter:Expr)(wi:TI):Prop :=
 ∀(pins:List (Addr×Obj)) (s:xh) (σ:St) (H:Hp) (R:It->Hp->Prop),Inv X pins σ H s->wi σ H R →
  xM (xT X.prog X.w) X.A (eval iter X.env) (λv s1=>xM (xT X.prog X.w) X.A (pyIter v) (PIE X pins σ tg R) X.xe s1) X.xe s
theorem om {M:Model}{A:yh}{E:xb->xh->Prop}{s:xh}{tg:Expr}{it:Addr}{u:xb}{o:Obj}{n:String}{vs:Array xb}{Q:Unit->xh->Prop}(ho:s.heap.get? it=some o)(hc:o.cls = .type n)(hd:o.data = .fields vs)
    (hn:["enumerate", "zip", "dict_itemiterator", "dict_reverseitemiterator", "odict_iterator", "itertools.zip_longest", "itertools.pairwise"].contains n=false) (hQ:Q () s):xM M A (letOwnedTupleGo tg (.ref it) u) Q E s:=by
  unfold letOwnedTupleGo
  cases tg <;> first
    | exact xn hQ
    | (cases u <;> first
        | exact xn hQ
        | (refine wZ (DJ ho ?_)
           rw[hc,hd]
           show xM M A (if (["enumerate", "zip", "dict_itemiterator", "dict_reverseitemiterator", "odict_iterator", "itertools.zip_longest", "itertools.pairwise"].contains n && vs[0]? == some (Er _))=true then _ else _) Q E s
           rw[if_neg (by intro h;rw[hn,Bool.false_and] at h;cases h)]
           exact xn hQ))
def Itl (K:wY)(a:Addr):It :=
 ⟨λi H=>∃xs x,SqL K H a xs/\xs[i]? = some x,λi H x H'=>H'=H/\∀xs,SqL K H a xs->xs[i]? = some x,λi H=>∃xs,SqL K H a xs/\xs.length<=i⟩
def Itt (K:wY)(a:Addr):It :=
 ⟨λi H=>∃xs x,SqT K H a xs/\xs[i]? = some x,λi H x H'=>H'=H/\∀xs,SqT K H a xs->xs[i]? = some x,λi H=>∃xs,SqT K H a xs/\xs.length<=i⟩
def Itr (lo:Int)(n:Nat):It:=⟨λi _=>i<n,λi H x H'=>H'=H/\x = .int (lo+i),λi _=>n<=i⟩
theorem jS {P:xA}{w:xQ}{K:wY}{tg:Expr}(a it:Addr):Turn P w K tg (Itl K a) [it] it (λi h=>h.IsListIter it a i) where
 mem:=by simp
 obj:=λi h st b hb=>by
  have e:b=it:=by simpa using hb
  subst e
  obtain ⟨o,e,c,d⟩:=st
  exact ⟨o,e,λv z=>by rw[d] at z;cases z⟩
 keep:=λi h h' st k=>st.at λo e=>k it (by simp) o e
 item:=by
  intro X hP hw hK hc i pins s σ H E I hf st hg
  subst hP hw hK
  obtain ⟨xs,x,hq,hx⟩:=hg
  obtain ⟨its,rv,p,hz⟩:=I.list hq
  obtain ⟨u,hu,ru⟩:=rv.get hx
  obtain ⟨f0,f1,f2,f3,f4,f5⟩:=hf it (by simp)
  refine wpAny_pyNext_list_item st p.isList (x:=u) (by simpa using hu) λh' st' sb =>?_
  have I1:Inv X pins σ H { s with heap:=h' }:=I.turned (t':=s.toks) (λb o hb e=>(sb.2 b hb).trans e) f0 f1 f3 f4 f5
  obtain ⟨o,e,c,d⟩:=id st'
  exact ⟨u,rfl,om (s:={ s with heap:=h' }) e c d (by decide) ⟨x,H,I1,ru,⟨rfl,λys hy=>by rw[I.iN hy hq];exact hx⟩,st',λb hb=>(hf b hb).1⟩⟩
 done:=by
  intro X hP hw hK hc i pins s σ H E I hf st hg
  subst hP hw hK
  obtain ⟨xs,hq,hx⟩:=hg
  obtain ⟨its,rv,p,hz⟩:=I.list hq
  obtain ⟨f0,f1,f2,f3,f4,f5⟩:=hf it (by simp)
  have hl:=rv.length
  exact wpAny_pyNext_list_end (I.ok.hd hc) st p.isList (by simp;lia) λh' eb=>⟨rfl,I.turned (t':=s.toks) (λb o hb e=>eb b o hb e) f0 f1 f3 f4 f5⟩
 self:=λ_ _ _ _ _ st h=>wpAny_pyIter_listiter st h
theorem iQ {P:xA}{w:xQ}{K:wY}{tg:Expr}(a it:Addr):Turn P w K tg (Itt K a) [it] it (λi h=>h.IsTupleIter it a i) where
 mem:=by simp
 obj:=λi h st b hb=>by
  have e:b=it:=by simpa using hb
  subst e
  obtain ⟨o,e,c,d⟩:=st
  exact ⟨o,e,λv z=>by rw[d] at z;cases z⟩
 keep:=λi h h' st k=>st.at λo e=>k it (by simp) o e
 item:=by
  intro X hP hw hK hc i pins s σ H E I hf st hg
  subst hP hw hK
  obtain ⟨xs,x,hq,hx⟩:=hg
  obtain ⟨its,rv,p,hz⟩:=I.tuple hq
  obtain ⟨u,hu,ru⟩:=rv.get hx
  obtain ⟨f0,f1,f2,f3,f4,f5⟩:=hf it (by simp)
  refine wpAny_pyNext_tuple_item st (show s.heap.IsTuple a its.toArray from p) (x:=u) (by simpa using hu) λh' st' sb =>?_
  have I1:Inv X pins σ H { s with heap:=h' }:=I.turned (t':=s.toks) (λb o hb e=>(sb.2 b hb).trans e) f0 f1 f3 f4 f5
  obtain ⟨o,e,c,d⟩:=id st'
  exact ⟨u,rfl,om (s:={ s with heap:=h' }) e c d (by decide) ⟨x,H,I1,ru,⟨rfl,λys hy=>by rw[I.gI hy hq];exact hx⟩,st',λb hb=>(hf b hb).1⟩⟩
 done:=by
  intro X hP hw hK hc i pins s σ H E I hf st hg
  subst hP hw hK
  obtain ⟨xs,hq,hx⟩:=hg
  obtain ⟨its,rv,p,hz⟩:=I.tuple hq
  obtain ⟨f0,f1,f2,f3,f4,f5⟩:=hf it (by simp)
  have hl:=rv.length
  exact wpAny_pyNext_tuple_end (I.ok.hd hc) st (show s.heap.IsTuple a its.toArray from p) (by simp;lia) λh' eb=>⟨rfl,I.turned (t':=s.toks) (λb o hb e=>eb b o hb e) f0 f1 f3 f4 f5⟩
 self:=λ_ _ _ _ _ st h=>wpAny_pyIter_tupleiter st h
theorem mU {P:xA}{w:xQ}{K:wY}{tg:Expr}(it:Addr)(lo:Int)(n:Nat):Turn P w K tg (Itr lo n) [it] it (λi h=>IsRangeIter h it (lo+(i:Nat)*1) ((n:Int)-(i:Nat)) 1) where
 mem:=by simp
 obj:=λi h st b hb=>by
  have e:b=it:=by simpa using hb
  subst e
  exact ⟨_,st,λv z=>by
   have z':Data.fields _=Data.cell v:=z
   cases z'⟩
 keep:=λi h h' st k=>k it (by simp) _ st
 item:=by
  intro X hP hw hK hc i pins s σ H E I hf st hg
  subst hP hw hK
  obtain ⟨f0,f1,f2,f3,f4,f5⟩:=hf it (by simp)
  have W:=Walks.range (prog:=X.prog) (w:=X.w) (I.ok.hd hc) it lo 1 n
  refine W.item i s _ _ hg st λv h' tk hv st' kk =>?_
  obtain ⟨t,rfl⟩:=hv
  have I1:Inv X pins σ H { s with heap:=h',toks:=tk }:=I.turned (λb o hb e=>kk b o (by simpa using hb) e) f0 f1 f3 f4 f5
  refine ⟨_,rfl,om (s:={ s with heap:=h',toks:=tk }) (n := "range_iterator") st' rfl rfl (by decide) ⟨.int (lo+i),H,I1,⟨t,?_⟩,⟨rfl,rfl⟩,st',λb hb=>(hf b hb).1⟩⟩
  rw[Int.mul_one]
 done:=by
  intro X hP hw hK hc i pins s σ H E I hf st hg
  subst hP hw hK
  obtain ⟨f0,f1,f2,f3,f4,f5⟩:=hf it (by simp)
  exact wpAny_pyNext_range_end (I.ok.hd hc) st (by have:n<=i:=hg;lia) λh' eb=>⟨rfl,I.turned (t':=s.toks) (λb o hb e=>eb b o hb e) f0 f1 f3 f4 f5⟩
 self:=λ_ _ _ _ _ st h=>wpAny_pyIter_rangeiter st h
open PySem PySem.Spec PyProof.Rows
section
variable  {X:Cx}{tg:Expr}
def wb (K:wY)(tl:TE):TI:=λσ H R=>tl σ H λx H1=>∃a,x = .ref a/\(∃xs,SqL K H1 a xs)/\R (Itl K a) H1
def wc (K:wY)(tl:TE):TI:=λσ H R=>tl σ H λx H1=>∃a,x = .ref a/\(∃xs,SqT K H1 a xs)/\R (Itt K a) H1
theorem cC {l:Expr}{tl:TE}(hl:PE X l tl):PI X tg l (wb X.K tl):=by
 intro pins s σ H R I h
 refine thn (hl pins s σ H _ I h) λv s1 ⟨x,H1,I1,r1,q1⟩ =>?_
 obtain ⟨a,e,⟨xs,hq⟩,q⟩:=q1
 subst e
 cases r1
 obtain ⟨its,rv,p,hz⟩:=I1.list hq
 refine Ax p.isList ?_
 refine ⟨s1.heap.objs.size,[s1.heap.objs.size],_,_,H1,rfl,I1.kept (t':=s1.toks) λb o e=>wX _ e,jS a _,⟨_,xr _ rfl,rfl,rfl⟩,λb hb =>?_,q⟩
 have e:b=s1.heap.objs.size:=by simpa using hb
 subst e
 exact I1.pM (xg _) (I1.hok.fresh (xg _))
theorem cW {l:Expr}{tl:TE}(hl:PE X l tl):PI X tg l (wc X.K tl):=by
 intro pins s σ H R I h
 refine thn (hl pins s σ H _ I h) λv s1 ⟨x,H1,I1,r1,q1⟩ =>?_
 obtain ⟨a,e,⟨xs,hq⟩,q⟩:=q1
 subst e
 cases r1
 obtain ⟨its,rv,p,hz⟩:=I1.tuple hq
 refine zi (show s1.heap.IsTuple a its.toArray from p) ?_
 refine ⟨s1.heap.objs.size,[s1.heap.objs.size],_,_,H1,rfl,I1.kept (t':=s1.toks) λb o e=>wX _ e,iQ a _,⟨_,xr _ rfl,rfl,rfl⟩,λb hb =>?_,q⟩
 have e:b=s1.heap.objs.size:=by simpa using hb
 subst e
 exact I1.pM (xg _) (I1.hok.fresh (xg _))
theorem lK {pins:List (Addr×Obj)}{σ:St}{H:Hp}{s:xh}{R:It->Hp->Prop}{E:xb->xh->Prop}{lo hi:Int}{t u v:Tok}{tk:Nat}(I:Inv X pins σ H s)(h1 : -(2 ^ 62)<=lo)(h2:lo<2 ^ 62)(h3 : -(2 ^ 62)<=hi)(h4:hi<2 ^ 62)
  (q:R (Itr lo (hi-lo).toNat) H):xM (xT X.prog X.w) X.A (pyIter (.ref s.heap.objs.size)) (PIE X pins σ tg R) E { s with heap:=s.heap.push { cls :=.type "range",data :=.fields #[.int lo t,.int hi u,.int 1 v] },toks:=tk }:=by
 refine wpAny_pyIter_range (IsRange.new ..) (small_one h1 h2 h3 h4) ?_
 have I1:Inv X pins σ H { s with heap:=s.heap.push { cls :=.type "range",data :=.fields #[.int lo t,.int hi u,.int 1 v] },toks:=tk }:=I.kept λb o e=>wX _ e
 refine ⟨(s.heap.push { cls :=.type "range",data :=.fields #[.int lo t,.int hi u,.int 1 v] }).objs.size,[(s.heap.push { cls :=.type "range",data :=.fields #[.int lo t,.int hi u,.int 1 v] }).objs.size],_,_,H,rfl,
  I1.kept (t':=tk) λb o e=>wX _ e,mU _ lo (hi-lo).toNat,?_,λb hb =>?_,q⟩
 ·have e1:lo+((0:Nat):Int)*1=lo:=by simp
  have e2:(((hi-lo).toNat:Nat):Int)-((0:Nat):Int)=Builtin.Range.rangeSize lo hi 1:=by rw[rangeSize_one];split <;> lia
  show IsRangeIter _ _ (lo+((0:Nat):Int)*1) ((((hi-lo).toNat:Nat):Int)-((0:Nat):Int)) 1
  rw[e1,e2]
  exact xr _ rfl
 ·have e:b=(s.heap.push { cls :=.type "range",data :=.fields #[.int lo t,.int hi u,.int 1 v] }).objs.size:=by simpa using hb
  subst e
  exact I1.pM (xg _) (I1.hok.fresh (xg _))
def wd (ta:TA):TI:=λσ H R=>ta σ H λvs H1=>∃j:Int,vs=[.int j] /\ -(2 ^ 62)<=j/\j<2 ^ 62/\R (Itr 0 j.toNat) H1
def we (ta:TA):TI:=λσ H R=>ta σ H λvs H1=>∃i j:Int,vs=[.int i,.int j]/\(-(2 ^ 62)<=i/\i<2 ^ 62 /\ -(2 ^ 62)<=j/\j<2 ^ 62)/\R (Itr i (j-i).toNat) H1
theorem bA {a:Expr}{ta:TA}{p pos:Pos}(hg:Gl X "range")(hm:X.mg "range" = none)(ha:PA X [a] ta)(hs:yO [a] X.env=[(false,eval a X.env)]:=by rfl):PI X tg (.Call (.Name "range" p) [a] [] pos) (wd ta):=by
 intro pins s σ H R I h
 refine Call_ (fN I hg hm boot_range (zd (thn (ha pos pins s σ H _ I h) λus s1 ⟨vs,H1,I1,r1,q1⟩ =>?_) hs rfl))
 obtain ⟨j,e,q1,q2,q⟩:=q1
 subst e
 cases r1 with
 | cons r rr =>
  cases rr
  obtain ⟨t,rfl⟩:=r
  exact call_range_1 (lK I1 (by lia) (by lia) q1 q2 (by simpa using q))
theorem pN {a b:Expr}{ta:TA}{p pos:Pos}(hg:Gl X "range")(hm:X.mg "range" = none)(ha:PA X [a,b] ta)(hs:yO [a,b] X.env=[(false,eval a X.env),(false,eval b X.env)]:=by rfl)(hs2:yO [b] X.env=[(false,eval b X.env)]:=by rfl) :
  PI X tg (.Call (.Name "range" p) [a,b] [] pos) (we ta):=by
 intro pins s σ H R I h
 refine Call_ (fN I hg hm boot_range (zd (thn (ha pos pins s σ H _ I h) λus s1 ⟨vs,H1,I1,r1,q1⟩ =>?_) (by rw[hs,hs2]) (by rw[hs2];rfl)))
 obtain ⟨i,j,e,⟨q1,q2,q3,q4⟩,q⟩:=q1
 subst e
 cases r1 with
 | cons r rr =>
  cases rr with
  | cons r' rr =>
   cases rr
   obtain ⟨t,rfl⟩:=r
   obtain ⟨t',rfl⟩:=r'
   exact call_range_2 (lK I1 q1 q2 q3 q4 q)
def tFor (wi:TI)(g:TG)(tb:TS):TS:=λD σ H=>wi σ H λJ H1=>∃W:Nat->Nat->St->Hp->Prop,(∃m,W 0 m σ H1)/\∀i m σ H,W i m σ H →
 (J.stop i H/\D.nx σ H)\/(J.go i H/\∃N:St->Hp->Prop,(∀σ' H',N σ' H'->∃m',m'<m/\W (i+1) m' σ' H')/\∀x H',J.yld i H x H'->g x σ H' λσ2 H2=>tb { D with nx:=N,ct:=N,bk:=D.nx } σ2 H2)
def fP (fp:List Addr)(h:Heap):List (Addr×Obj):=fp.filterMap λb=>(h.get? b).map λo=>(b,o)
theorem cX {fp:List Addr}{h:Heap}{b:Addr}{o:Obj}(hb:b∈fp)(e:h.get? b=some o):(b,o)∈fP fp h:=BI.mpr ⟨b,hb,by rw[e];rfl⟩
theorem jT {fp:List Addr}{h:Heap}{p:Addr×Obj}(hp:p∈fP fp h):p.1∈fp/\h.get? p.1=some p.2:=by
 obtain ⟨b,hb,e⟩:=BI.mp hp
 cases q:h.get? b with
 | none=>rw[q] at e;cases e
 | some o =>
  rw[q] at e
  have e':(b,o)=p:=x9 e
  subst e'
  exact ⟨hb,q⟩
theorem Inv.pinned {pins:List (Addr×Obj)}{σ:St}{H:Hp}{s:xh}{fp:List Addr}(I:Inv X pins σ H s)(hf:∀b∈fp,iy X pins H b)(ho:∀b∈fp,∃o,s.heap.get? b=some o/\∀v,o.data ≠ .cell v):Inv X (pins++fP fp s.heap) σ H s :=
 I.gh λp hp=>(xx.mp hp).elim (λz=>I.pin p (xS _ z)) λz=>by
  obtain ⟨hb,e⟩:=jT z
  obtain ⟨f0,f1,f2,_⟩:=hf p.1 hb
  obtain ⟨o,e',d⟩:=ho p.1 hb
  rw[e] at e';cases e'
  exact ⟨e,f0,f1,f2,d⟩
theorem Inv.dE {pins pl:List (Addr×Obj)}{σ:St}{H:Hp}{s:xh}(I:Inv X (pins++pl) σ H s):Inv X pins σ H s:=I.gh λp hp=>I.pin p (xS _ (yQ _ hp))
theorem cy {iter:Expr}{body:List Stmt}{wi:TI}{g:TG}{tb:TS}{pos:Pos}(hp:PassesOwn (xT X.prog X.w) X.A X.env X.xe)(hc:X.calm=true)(hi:PI X tg iter wi)(hg:PG X tg g)(hb:PSs X body tb)
  (hs:∀x,foldedSetIterable iter X.env x=pure x:=by intro _;rfl):PS X (.For tg iter body [] pos) (tFor wi g tb):=by
 intro pins s σ H D I h
 refine wpAny_For (thn (hi pins s σ H _ I h) λv s1 h1=>thn h1 λitv s2 h2 =>?_) hs
 obtain ⟨it,fp,tn,J,H2,e,I2,T,st2,f2,W,⟨m0,w0⟩,turn⟩:=h2
 subst e
 have stat:∀{H':Hp},(∀b∈fp,H' b=none)->∀b∈fp,iy X pins H' b:=λhn b hb=>⟨hn b hb,(f2 b hb).2⟩
 refine codeAny_forLoop_any (λn s'=>∃i σ' H',Inv X pins σ' H' s'/\tn i s'.heap/\(∀b∈fp,H' b=none)/\W i n σ' H') ?_ m0 ⟨0,σ,H2,I2,st2,λb hb=>(f2 b hb).1,w0⟩
 rintro n s3 ⟨i,σ3,H3,I3,st3,fr3,w3⟩
 rcases turn i n σ3 H3 w3 with ⟨stop,qn⟩ | ⟨go,N,hN,step⟩
 ·refine zY hp (thn (T.done X rfl rfl rfl hc i pins s3 σ3 H3 X.xe I3 (stat fr3) st3 stop) λr s4 ⟨hr,I4⟩ =>?_)
  subst hr
  exact BA ⟨σ3,H3,I4,qn⟩
 ·refine zY hp (thn (T.item X rfl rfl rfl hc i pins s3 σ3 H3 X.xe I3 (stat fr3) st3 go) λr s4 ⟨u,hr,h4⟩ =>?_)
  subst hr
  refine zY hp (thn h4 λ_ s5 ⟨x,H5,I5,r5,y5,st5,fr5⟩ =>?_)
  have I5':=I5.pinned (stat fr5) (T.obj _ _ st5)
  refine zY hp (thn (hg _ s5 σ3 H5 x u _ I5' r5 (step x H5 y5)) λ_ s6 ⟨σ6,H6,I6,q6⟩ =>?_)
  refine zY hp (thn (hb _ s6 σ6 H6 _ I6 q6) λf s7 q7 =>?_)
  have again:∀{σ7:St} {H7:Hp},Inv X (pins++fP fp s5.heap) σ7 H7 s7->N σ7 H7->∃m,m<n/\∃i σ' H',Inv X pins σ' H' s7/\tn i s7.heap/\(∀b∈fp,H' b=none)/\W i m σ' H':=λ{σ7 H7} I7 n7=>by
   obtain ⟨m',hm,w7⟩:=hN σ7 H7 n7
   refine ⟨m',hm,i+1,σ7,H7,I7.dE,T.keep _ _ _ st5 λb hb o e=>(I7.pin (b,o) (xS _ (xS _ (cX hb e)))).1,λb hb =>?_,w7⟩
   obtain ⟨o,e,d⟩:=T.obj _ _ st5 b hb
   exact (I7.pin (b,o) (xS _ (xS _ (cX hb e)))).2.1
  cases f with
  | next=>obtain ⟨σ7,H7,I7,n7⟩:=q7;exact again I7 n7
  | cont=>obtain ⟨σ7,H7,I7,n7⟩:=q7;exact again I7 n7
  | brk=>obtain ⟨σ7,H7,I7,q7⟩:=q7;exact ⟨σ7,H7,I7.dE,q7⟩
  | ret v=>obtain ⟨x7,σ7,H7,I7,r7,q7⟩:=q7;exact ⟨x7,σ7,H7,I7.dE,r7,q7⟩
end
theorem dF {K:wY}{a:Addr}{xs:List V}{g:TG}{tb:TS}{D:Ends}{σ:St}{H:Hp}(Pv:Nat->St->Hp->Prop)(h0:Pv 0 σ H)(hl:∀i σ H,i<=xs.length->Pv i σ H->SqL K H a xs)
  (hs:∀i x σ H,xs[i]? = some x->Pv i σ H->g x σ H λσ2 H2=>tb { D with nx:=Pv (i+1),ct:=Pv (i+1),bk:=D.nx } σ2 H2) (hd:∀σ H,Pv xs.length σ H->D.nx σ H) :
  ∃W:Nat->Nat->St->Hp->Prop,(∃m,W 0 m σ H)/\∀i m σ H,W i m σ H →
   ((Itl K a).stop i H/\D.nx σ H)\/((Itl K a).go i H/\∃N:St->Hp->Prop,(∀σ' H',N σ' H'->∃m',m'<m/\W (i+1) m' σ' H')/\∀x H',(Itl K a).yld i H x H'->g x σ H' λσ2 H2=>tb { D with nx:=N,ct:=N,bk:=D.nx } σ2 H2):=by
 refine ⟨λi m σ H=>m=xs.length-i/\i<=xs.length/\Pv i σ H,⟨xs.length,by simp,yk _,h0⟩,?_⟩
 rintro i m σ H ⟨rfl,hi,p⟩
 have q:=hl i σ H hi p
 by_cases hlt:i<xs.length
 ·refine .inr ⟨⟨xs,xs[i],q,by simp[hlt]⟩,Pv (i+1),λσ' H' p'=>⟨xs.length-(i+1),by lia,rfl,hlt,p'⟩,λx H' y =>?_⟩
  obtain ⟨e,y⟩:=y
  subst e
  exact hs i x σ _ (y xs q) p
 ·have e:i=xs.length:=by lia
  subst e
  exact .inl ⟨⟨xs,q,xg _⟩,hd σ H p⟩
theorem oo {K:wY}{a:Addr}{xs:List V}{g:TG}{tb:TS}{D:Ends}{σ:St}{H:Hp}(Pv:Nat->St->Hp->Prop)(h0:Pv 0 σ H)(hl:∀i σ H,i<=xs.length->Pv i σ H->SqT K H a xs)
  (hs:∀i x σ H,xs[i]? = some x->Pv i σ H->g x σ H λσ2 H2=>tb { D with nx:=Pv (i+1),ct:=Pv (i+1),bk:=D.nx } σ2 H2) (hd:∀σ H,Pv xs.length σ H->D.nx σ H) :
  ∃W:Nat->Nat->St->Hp->Prop,(∃m,W 0 m σ H)/\∀i m σ H,W i m σ H →
   ((Itt K a).stop i H/\D.nx σ H)\/((Itt K a).go i H/\∃N:St->Hp->Prop,(∀σ' H',N σ' H'->∃m',m'<m/\W (i+1) m' σ' H')/\∀x H',(Itt K a).yld i H x H'->g x σ H' λσ2 H2=>tb { D with nx:=N,ct:=N,bk:=D.nx } σ2 H2):=by
 refine ⟨λi m σ H=>m=xs.length-i/\i<=xs.length/\Pv i σ H,⟨xs.length,by simp,yk _,h0⟩,?_⟩
 rintro i m σ H ⟨rfl,hi,p⟩
 have q:=hl i σ H hi p
 by_cases hlt:i<xs.length
 ·refine .inr ⟨⟨xs,xs[i],q,by simp[hlt]⟩,Pv (i+1),λσ' H' p'=>⟨xs.length-(i+1),by lia,rfl,hlt,p'⟩,λx H' y =>?_⟩
  obtain ⟨e,y⟩:=y
  subst e
  exact hs i x σ _ (y xs q) p
 ·have e:i=xs.length:=by lia
  subst e
  exact .inl ⟨⟨xs,q,xg _⟩,hd σ H p⟩
theorem dG {lo:Int}{n:Nat}{g:TG}{tb:TS}{D:Ends}{σ:St}{H:Hp}(Pv:Nat->St->Hp->Prop)(h0:Pv 0 σ H)
  (hs:∀i σ H,i<n->Pv i σ H->g (.int (lo+i)) σ H λσ2 H2=>tb { D with nx:=Pv (i+1),ct:=Pv (i+1),bk:=D.nx } σ2 H2) (hd:∀σ H,Pv n σ H->D.nx σ H) :
  ∃W:Nat->Nat->St->Hp->Prop,(∃m,W 0 m σ H)/\∀i m σ H,W i m σ H →
   ((Itr lo n).stop i H/\D.nx σ H)\/((Itr lo n).go i H/\∃N:St->Hp->Prop,(∀σ' H',N σ' H'->∃m',m'<m/\W (i+1) m' σ' H')/\∀x H',(Itr lo n).yld i H x H'->g x σ H' λσ2 H2=>tb { D with nx:=N,ct:=N,bk:=D.nx } σ2 H2):=by
 refine ⟨λi m σ H=>m=n-i/\i<=n/\Pv i σ H,⟨n,by simp,yk _,h0⟩,?_⟩
 rintro i m σ H ⟨rfl,hi,p⟩
 by_cases hlt:i<n
 ·refine .inr ⟨hlt,Pv (i+1),λσ' H' p'=>⟨n-(i+1),by lia,rfl,hlt,p'⟩,λx H' y =>?_⟩
  obtain ⟨e,y⟩:=y
  subst e y
  exact hs i σ _ hlt p
 ·have e:i=n:=by lia
  subst e
  exact .inl ⟨xg _,hd σ H p⟩
theorem qW {c:TT}{tb:TS}{D:Ends}{σ:St}{H:Hp}(Pv:St->Hp->Prop)(μ:St->Hp->Nat)(h0:Pv σ H)
  (hs:∀σ H,Pv σ H->c σ H λb H1=>if b=true then tb { D with nx:=λσ' H'=>Pv σ' H' /\ μ σ' H'<μ σ H,ct:=λσ' H'=>Pv σ' H' /\ μ σ' H'<μ σ H,bk:=D.nx } σ H1 else D.nx σ H1)
  (mono:∀σ H Q Q',(∀b H1,Q b H1->Q' b H1)->c σ H Q->c σ H Q'):qU c tb D σ H:=by
 refine ⟨λm σ H=>m=μ σ H/\Pv σ H,⟨_,rfl,h0⟩,?_⟩
 rintro m σ H ⟨rfl,p⟩
 refine mono σ H _ _ (λb H1 q =>?_) (hs σ H p)
 cases b with
 | true=>exact ⟨_,λσ' H' ⟨p',l⟩=>⟨_,l,rfl,p'⟩,q⟩
 | false=>exact q
open PySem PySem.Spec PyProof.Rows
abbrev R2:=V->V->Hp->VK->Prop
def OpR (X:Cx)(f:xb->xb->Sem xb)(r:R2):Prop :=
 ∀(pins:List (Addr×Obj)) (s:xh) (σ:St) (H:Hp) (x y:V) (v u:xb) (Q:VK),Inv X pins σ H s->RelV x v->RelV y u->r x y H Q →
  xM (xT X.prog X.w) X.A (f v u) (EP X pins σ Q) X.xe s
def UnR (X:Cx)(f:xb->Sem xb)(r:V->Hp->VK->Prop):Prop :=
 ∀(pins:List (Addr×Obj)) (s:xh) (σ:St) (H:Hp) (x:V) (v:xb) (Q:VK),Inv X pins σ H s->RelV x v->r x H Q →
  xM (xT X.prog X.w) X.A (f v) (EP X pins σ Q) X.xe s
def bK (X:Cx)(f:xb)(r:List V->Hp->VK->Prop):Prop :=
 ∀(pins:List (Addr×Obj)) (s:xh) (σ:St) (H:Hp) (xs:List V) (us:List xb) (Q:VK),Inv X pins σ H s->Vals xs us->r xs H Q →
  xM (xT X.prog X.w) X.A (call f us) (EP X pins σ Q) X.xe s
def tOp (r:R2)(ta tb:TE):TE:=λσ H Q=>ta σ H λx H1=>tb σ H1 λy H2=>r x y H2 Q
def tUn (r:V->Hp->VK->Prop)(ta:TE):TE:=λσ H Q=>ta σ H λx H1=>r x H1 Q
def rI (C:Int->Int->Prop)(g:Int->Int->V):R2:=λx y H Q=>∃i j,x = .int i/\y = .int j/\C i j/\Q (g i j) H
def rI0 (g:Int->Int->V):R2:=λx y H Q=>∃i j,x = .int i/\y = .int j/\Q (g i j) H
def rU (g:Int->V):V->Hp->VK->Prop:=λx H Q=>∃i,x = .int i/\Q (g i) H
section
variable  {X:Cx}{a b c:Expr}{ta tb tc:TE}{pos:Pos}
theorem va (ha:PE X a ta)(hb:PE X b tb){pins:List (Addr×Obj)}{s:xh}{σ:St}{H:Hp}{R:V->V->Hp->Prop}(I:Inv X pins σ H s)
  (h:ta σ H λx H1=>tb σ H1 λy H2=>R x y H2) {Q:xb->xh->Prop} {f:xb->xb->Sem xb}
  (hf:∀v u s2 x y H2,Inv X pins σ H2 s2->RelV x v->RelV y u->R x y H2->xM (xT X.prog X.w) X.A (f v u) Q X.xe s2) :
  xM (xT X.prog X.w) X.A (eval a X.env) (λv s₁=>xM (xT X.prog X.w) X.A (eval b X.env) (λu s₂=>xM (xT X.prog X.w) X.A (f v u) Q X.xe s₂) X.xe s₁) X.xe s:=by
 refine thn (ha pins s σ H _ I h) λv s1 ⟨x,H1,I1,r1,q1⟩ =>?_
 refine thn (hb pins s1 σ H1 _ I1 q1) λu s2 ⟨y,H2,I2,r2,q2⟩ =>?_
 exact hf v u s2 x y H2 I2 r1 r2 q2
theorem aE {op:Operator}{r:R2}(ho:OpR X (binaryOp op) r)(ha:PE X a ta)(hb:PE X b tb):PE X (.BinOp a op b pos) (tOp r ta tb):=by
 intro pins s σ H Q I h
 exact wpAny_BinOp (va ha hb I h λv u s2 x y H2 I2 rx ry q=>ho pins s2 σ H2 x y v u Q I2 rx ry q)
theorem oq {op:UnaryOp}{r:V->Hp->VK->Prop}(ho:UnR X (unaryOp op) r)(ha:PE X a ta):PE X (.UnaryOp op a pos) (tUn r ta):=by
 intro pins s σ H Q I h
 exact UnaryOp_ (thn (ha pins s σ H _ I h) λv s1 ⟨x,H1,I1,r1,q1⟩=>ho pins s1 σ H1 x v Q I1 r1 q1)
theorem opI {f:xb->xb->Sem xb}{C:Int->Int->Prop}{g:Int->Int->Int}
  (rule:∀(i j:Int) (t u:Tok) (s:xh) (Q:xb->xh->Prop) (E:xb->xh->Prop),C i j->Q (.int (g i j) s.toks) { s with toks:=s.toks+1 }->xM (xT X.prog X.w) X.A (f (.int i t) (.int j u)) Q E s) :
  OpR X f (rI C λi j =>.int (g i j)):=by
 intro pins s σ H x y v u Q I rx ry h
 obtain ⟨i,j,rfl,rfl,hc,q⟩:=h
 obtain ⟨t,rfl⟩:=rx
 obtain ⟨t',rfl⟩:=ry
 exact rule i j t t' s _ _ hc ⟨.int (g i j),H,I.tok _,⟨_,rfl⟩,q⟩
theorem wg {f:xb->xb->Sem xb}{g:Int->Int->Int}
  (rule:∀(i j:Int) (t u:Tok) (s:xh) (Q:xb->xh->Prop) (E:xb->xh->Prop),Q (.int (g i j) s.toks) { s with toks:=s.toks+1 }->xM (xT X.prog X.w) X.A (f (.int i t) (.int j u)) Q E s) :
  OpR X f (rI0 λi j =>.int (g i j)):=by
 intro pins s σ H x y v u Q I rx ry h
 obtain ⟨i,j,rfl,rfl,q⟩:=h
 obtain ⟨t,rfl⟩:=rx
 obtain ⟨t',rfl⟩:=ry
 exact rule i j t t' s _ _ ⟨.int (g i j),H,I.tok _,⟨_,rfl⟩,q⟩
theorem sP {f:xb->xb->Sem xb}{g:Int->Int->Bool}
  (rule:∀(i j:Int) (t u:Tok) (s:xh) (Q:xb->xh->Prop) (E:xb->xh->Prop),Q (.bool (g i j)) s->xM (xT X.prog X.w) X.A (f (.int i t) (.int j u)) Q E s) :
  OpR X f (rI0 λi j =>.bl (g i j)):=by
 intro pins s σ H x y v u Q I rx ry h
 obtain ⟨i,j,rfl,rfl,q⟩:=h
 obtain ⟨t,rfl⟩:=rx
 obtain ⟨t',rfl⟩:=ry
 exact rule i j t t' s _ _ ⟨.bl (g i j),H,I,rfl,q⟩
def CDiv (i j:Int):Prop:=0<j/\j<1073741824
def CPow (i j:Int):Prop:=0<=j/\j<=1000000/\i.natAbs<2 ^ 64
def vb (i j:Int):Prop:=(-(2 ^ 64)<i/\i<2 ^ 64)\/(-(2 ^ 64)<j/\j<2 ^ 64)
theorem vb.ok {i j:Int}(h:vb i j):IntMulOk i j:=by
 rcases h with ⟨h1,h2⟩ | ⟨h1,h2⟩
 ·exact .of_left (intBits_le_64 h1 h2)
 ·exact .of_right (intBits_le_64 h1 h2)
theorem bh:OpR X (binaryOp .Add) (rI0 λi j =>.int (i+j)):=wg λ_ _ _ _ _ _ _ q=>add_int q
theorem cY:OpR X (binaryOp .Sub) (rI0 λi j =>.int (i-j)):=wg λ_ _ _ _ _ _ _ q=>sub_int q
theorem gK:OpR X (binaryOp .Mult) (rI vb λi j =>.int (i*j)):=opI λ_ _ _ _ _ _ _ hc q=>mul_int q hc.ok
theorem sQ:OpR X (binaryOp .FloorDiv) (rI CDiv λi j =>.int (i/j)):=opI λi j _ _ _ _ _ hc q=>by
 have h1:(0:Int)<j:=hc.1
 have h2:j<1073741824:=hc.2
 exact floordiv_int (by lia) (by rw[BC i (by lia)];exact q) (.inl (PyProof.noPylong_small (by lia)))
theorem eQ:OpR X (binaryOp .Mod) (rI (λ_ j=>0<j) λi j =>.int (i%j)):=opI λi j _ _ _ _ _ hc q=>by
 have h1:(0:Int)<j:=hc
 exact mod_int' (by lia) (by rw[BD i (by lia)];exact q)
theorem mV:OpR X (binaryOp .Pow) (rI CPow λi j =>.int (i ^ j.toNat)):=opI λ_ _ _ _ _ _ _ hc q=>pow_int_small hc.1 hc.2.1 hc.2.2 q
theorem unI {f:xb->Sem xb}{g:Int->Int}
  (rule:∀(i:Int) (t:Tok) (s:xh) (Q:xb->xh->Prop) (E:xb->xh->Prop),Q (.int (g i) s.toks) { s with toks:=s.toks+1 }->xM (xT X.prog X.w) X.A (f (.int i t)) Q E s) :
  UnR X f (rU λi =>.int (g i)):=by
 intro pins s σ H x v Q I rx h
 obtain ⟨i,rfl,q⟩:=h
 obtain ⟨t,rfl⟩:=rx
 exact rule i t s _ _ ⟨.int (g i),H,I.tok _,⟨_,rfl⟩,q⟩
theorem kG:UnR X (unaryOp .USub) (rU λi =>.int (-i)):=unI λ_ _ _ _ _ q=>neg_int q
end
def wj:V->V->Bool
 | .non,.non=>true | .non,.int _=>true | .int _,.non=>true | .non,.bl _=>true | .bl _,.non=>true | .non,.str _=>true | .str _,.non=>true
 | .int _,.int _=>true | .bl _,.bl _=>true | .str _,.str _=>true | .byt _,.byt _=>true
 | .int _,.str _=>true | .str _,.int _=>true | .bl _,.str _=>true | .str _,.bl _=>true
 | _,_=>false
def rEq:R2:=λx y H Q=>wj x y=true/\Q (.bl (decide (x=y))) H
def rNe:R2:=λx y H Q=>wj x y=true/\Q (.bl (!decide (x=y))) H
theorem ot {i j:Int}:decide (V.int i=V.int j)=(i == j):=by
 rw[zT]
 simp
theorem qX {i j:Bool}:decide (V.bl i=V.bl j)=(i == j):=by
 rw[zT]
 simp
theorem ou {i j:Str}:decide (V.str i=V.str j)=(i == j):=by
 rw[zT]
 simp
theorem ow {i j:Array UInt8}:decide (V.byt i=V.byt j)=(i.toList == j.toList):=by
 rw[zT]
 cases i
 cases j
 simp
section
variable  {X:Cx}{a b c:Expr}{ta tb tc:TE}{pos:Pos}
theorem aY {pins:List (Addr×Obj)}{σ:St}{H:Hp}{s:xh}{Q:VK}{k k':Bool}(I:Inv X pins σ H s)(q:Q (.bl k) H)(e:k=k'):EP X pins σ Q (.bool k') s:=by
 subst e
 exact ⟨.bl k,H,I,rfl,q⟩
theorem bE:OpR X (yI .Eq) rEq:=by
 intro pins s σ H x y v u Q I rx ry h
 obtain ⟨hs,q⟩:=h
 cases x with
 | non =>
  cases rx
  cases y with
  | non=>cases ry;exact PySem.EqNone.eq_none_none (aY I q (by simp))
  | bl j=>cases ry;exact PySem.EqNone.eq_none_bool (aY I q (by simp))
  | int j=>obtain ⟨t',rfl⟩:=ry;exact PySem.EqNone.eq_none_int (aY I q (by simp))
  | str j=>obtain ⟨t',rfl⟩:=ry;exact PySem.EqNone.eq_none_str (aY I q (by simp))
  | _=>exact absurd (show false=true from hs) xw
 | bl i =>
  cases rx
  cases y with
  | non=>cases ry;exact PySem.EqNone.eq_bool_none (aY I q (by simp))
  | bl j=>cases ry;exact eq_bool (aY I q qX)
  | str j=>obtain ⟨t',rfl⟩:=ry;exact D9 (aY I q (by simp))
  | _=>exact absurd (show false=true from hs) xw
 | int i =>
  obtain ⟨t,rfl⟩:=rx
  cases y with
  | non=>cases ry;exact PySem.EqNone.eq_int_none (aY I q (by simp))
  | int j=>obtain ⟨t',rfl⟩:=ry;exact eq_int (aY I q ot)
  | str j=>obtain ⟨t',rfl⟩:=ry;exact Ef (aY I q (by simp))
  | _=>exact absurd (show false=true from hs) xw
 | str i =>
  obtain ⟨t,rfl⟩:=rx
  cases y with
  | non=>cases ry;exact PySem.EqNone.eq_str_none (aY I q (by simp))
  | bl j=>cases ry;exact Ea (aY I q (by simp))
  | int j=>obtain ⟨t',rfl⟩:=ry;exact Eg (aY I q (by simp))
  | str j=>obtain ⟨t',rfl⟩:=ry;exact eq_str (aY I q ou)
  | _=>exact absurd (show false=true from hs) xw
 | byt i =>
  obtain ⟨t,rfl⟩:=rx
  cases y with
  | byt j=>obtain ⟨t',rfl⟩:=ry;exact PySem.W.eq_bytes (aY I q ow)
  | _=>exact absurd (show false=true from hs) xw
 | _=>cases y <;> exact absurd (show false=true from hs) xw
theorem qY:OpR X (yI .NotEq) rNe:=by
 intro pins s σ H x y v u Q I rx ry h
 obtain ⟨hs,q⟩:=h
 cases x with
 | non =>
  cases rx
  cases y with
  | non=>cases ry;exact PySem.EqNone.ne_none_none (aY I q (by simp))
  | bl j=>cases ry;exact PySem.EqNone.ne_none_bool (aY I q (by simp))
  | int j=>obtain ⟨t',rfl⟩:=ry;exact PySem.EqNone.ne_none_int (aY I q (by simp))
  | str j=>obtain ⟨t',rfl⟩:=ry;exact PySem.EqNone.ne_none_str (aY I q (by simp))
  | _=>exact absurd (show false=true from hs) xw
 | bl i =>
  cases rx
  cases y with
  | non=>cases ry;exact PySem.EqNone.ne_bool_none (aY I q (by simp))
  | bl j=>cases ry;exact ne_bool (aY I q (congrArg not qX))
  | str j=>obtain ⟨t',rfl⟩:=ry;exact Eb (aY I q (by simp))
  | _=>exact absurd (show false=true from hs) xw
 | int i =>
  obtain ⟨t,rfl⟩:=rx
  cases y with
  | non=>cases ry;exact PySem.EqNone.ne_int_none (aY I q (by simp))
  | int j=>obtain ⟨t',rfl⟩:=ry;exact ne_int (aY I q (congrArg not ot))
  | str j=>obtain ⟨t',rfl⟩:=ry;exact Eh (aY I q (by simp))
  | _=>exact absurd (show false=true from hs) xw
 | str i =>
  obtain ⟨t,rfl⟩:=rx
  cases y with
  | non=>cases ry;exact PySem.EqNone.ne_str_none (aY I q (by simp))
  | bl j=>cases ry;exact Ec (aY I q (by simp))
  | int j=>obtain ⟨t',rfl⟩:=ry;exact Ei (aY I q (by simp))
  | str j=>obtain ⟨t',rfl⟩:=ry;exact ne_str (aY I q (congrArg not ou))
  | _=>exact absurd (show false=true from hs) xw
 | byt i =>
  obtain ⟨t,rfl⟩:=rx
  cases y with
  | byt j=>obtain ⟨t',rfl⟩:=ry;exact PySem.W.ne_bytes (aY I q (congrArg not ow))
  | _=>exact absurd (show false=true from hs) xw
 | _=>cases y <;> exact absurd (show false=true from hs) xw
theorem gj:OpR X (yI .Lt) (rI0 λi j =>.bl (decide (i<j))):=sP λ_ _ _ _ _ _ _ q=>lt_int q
theorem wk:OpR X (yI .LtE) (rI0 λi j =>.bl (decide (i<=j))):=sP λ_ _ _ _ _ _ _ q=>le_int q
theorem lM:OpR X (yI .Gt) (rI0 λi j =>.bl (decide (j<i))):=sP λ_ _ _ _ _ _ _ q=>gt_int q
theorem uD:OpR X (yI .GtE) (rI0 λi j =>.bl (decide (j<=i))):=sP λ_ _ _ _ _ _ _ q=>ge_int q
theorem mW:OpR X (yI .Is) (λx y H Q=>y = .non/\Q (.bl (decide (x = .non))) H):=by
 intro pins s σ H x y v u Q I rx ry h
 obtain ⟨rfl,q⟩:=h
 cases ry
 refine is_none_gen (aY I q ?_)
 cases x <;> first
  | (cases rx;rfl)
  | (obtain ⟨t,rfl⟩:=rx;rfl)
theorem ay (b:Expr){op:CmpOp}(h:op ≠ .In:=by decide)(h2:op ≠ .NotIn:=by decide):behindInMarks op b=false:=by
 have e1:(op == CmpOp.In)=false:=by cases op <;> first | rfl | exact absurd rfl h
 have e2:(op == CmpOp.NotIn)=false:=by cases op <;> first | rfl | exact absurd rfl h2
 cases b <;> simp[behindInMarks,e1,e2]
theorem bU {op:CmpOp}{r:R2}(ho:OpR X (yI op) r)(ha:PE X a ta)(hb:PE X b tb)(hm:behindInMarks op b=false):PE X (.Compare a [op] [b] pos) (tOp r ta tb):=by
 intro pins s σ H Q I h
 exact wpAny_Compare1 (va ha hb I h λv u s2 x y H2 I2 rx ry q=>ho pins s2 σ H2 x y v u Q I2 rx ry q) hm
def wm (t:TE):TT:=λσ H Q=>t σ H λx H'=>∃k,x = .bl k/\Q k H'
theorem aj {op:CmpOp}{r:R2}(ho:OpR X (yI op) r)(ha:PE X a ta)(hb:PE X b tb)(hm:behindInMarks op b=false):PT X (.Compare a [op] [b] pos) (wm (tOp r ta tb)):=by
 intro pins s σ H Q I h
 refine CP (thn (ha pins s σ H _ I h) λv s1 ⟨x,H1,I1,r1,q1⟩=>thn (hb pins s1 σ H1 _ I1 q1) λu s2 ⟨y,H2,I2,r2,q2⟩ =>
  thn (ho pins s2 σ H2 x y v u _ I2 r1 r2 q2) λc s3 ⟨z,H3,I3,r3,k,e,q3⟩ =>?_) hm
 subst e
 cases r3
 exact yV ⟨H3,I3,q3⟩
def vc (r r':R2)(ta tb tc:TE):TE:=λσ H Q=>ta σ H λx H1=>tb σ H1 λy H2=>r x y H2 λz H3=>∃k,z = .bl k ∧
 (if k=true then tc σ H3 λw' H4=>r' y w' H4 Q else Q (.bl false) H3)
theorem qZ {op op':CmpOp}{r r':R2}(ho:OpR X (yI op) r)(ho':OpR X (yI op') r')(ha:PE X a ta)(hb:PE X b tb)(hc:PE X c tc)
  (hm:lastMarks [op,op'] [b,c]=false:=by with_unfolding_all rfl):PE X (.Compare a [op,op'] [b,c] pos) (vc r r' ta tb tc):=by
 intro pins s σ H Q I h
 refine Compare_chain (thn (ha pins s σ H _ I h) λv s1 ⟨x,H1,I1,r1,q1⟩=>chain_link (thn (hb pins s1 σ H1 _ I1 q1) λu s2 ⟨y,H2,I2,r2,q2⟩ =>
  thn (ho pins s2 σ H2 x y v u _ I2 r1 r2 q2) λd s3 ⟨z,H3,I3,r3,k,e,q3⟩ =>?_)) hm
 subst e
 cases r3
 refine yV ?_
 cases k with
 | false=>exact ite_ff ⟨.bl false,H3,I3,rfl,q3⟩
 | true=>exact ite_tt (chain_last (thn (hc pins s3 σ H3 _ I3 q3) λw' s4 ⟨z',H4,I4,r4,q4⟩=>ho' pins s4 σ H4 y z' u w' Q I4 r2 r4 q4))
theorem iR:(xf:Nat)<2 ^ 63:=by rw[D6];decide
theorem vals1 {x:V}{us:List xb}(r:Vals [x] us):∃u,us=[u]/\RelV x u:=by
 cases r with
 | cons r1 r2=>cases r2;exact ⟨_,rfl,r1⟩
theorem vals2 {x y:V}{us:List xb}(r:Vals [x,y] us):∃u w',us=[u,w']/\RelV x u/\RelV y w':=by
 cases r with
 | cons r1 r2 =>
  cases r2 with
  | cons r3 r4=>cases r4;exact ⟨_,_,rfl,r1,r3⟩
theorem jU (hc:X.calm=true):bK X (.builtin "min") (λxs H Q=>∃i j,xs=[.int i,.int j]/\Q (.int (if j<i then j else i)) H):=by
 intro pins s σ H xs us Q I r h
 obtain ⟨i,j,rfl,q⟩:=h
 obtain ⟨u,w',rfl,⟨t,rfl⟩,⟨t',rfl⟩⟩:=vals2 r
 refine min_two_ints (I.ok.hd hc) λh' tk k=>⟨_,H,I.kept k,?_,q⟩
 by_cases hj:j<i
 ·rw[if_pos hj,if_pos hj];exact ⟨_,rfl⟩
 ·rw[if_neg hj,if_neg hj];exact ⟨_,rfl⟩
theorem pO:bK X (.type "int") (λxs H Q=>(∃i,xs=[.int i]/\Q (.int i) H)\/∃k,xs=[.bl k]/\Q (.int (if k then 1 else 0)) H):=by
 intro pins s σ H xs us Q I r h
 rcases h with ⟨i,rfl,q⟩ | ⟨k,rfl,q⟩
 ·obtain ⟨u,rfl,t,rfl⟩:=vals1 r
  exact call_int_int ⟨.int i,H,I,⟨_,rfl⟩,q⟩
 ·obtain ⟨u,rfl,r1⟩:=vals1 r
  cases r1
  exact call_int_bool ⟨.int (if k then 1 else 0),H,I.tok _,⟨_,rfl⟩,q⟩
end
open PySem PySem.Spec PyProof.Rows
structure vd (h:Heap)(x dx C:Addr)(mA:Str->Option xb):Prop where
 obj:h.get? x=some (PySem.W.instObj C dx)
 ns:h.Ns1 dx mA
 ne:dx≠x
theorem pP {h:Heap}{dx:Addr}{mA:Str->Option xb}(n:h.Ns1 dx mA):∃od,h.get? dx=some od/\∀name,PySem.W.lookIn name od=some (mA name):=by
 obtain ⟨o,es,ep,ho,hd,hk,_,hm⟩:=n
 refine ⟨o,ho,λname =>?_⟩
 have e:=hm name
 unfold nsFind findBy at e
 rw[<- Array.find?_toList] at e
 unfold PySem.W.lookIn
 rw[hd]
 dsimp only
 split
 ·rename_i y q
  rw[q] at e
  exact congrArg some e
 ·rename_i q
  rw[q] at e
  have a:es.toList.any (·.refKey)=false:=by
   rw[List.any_eq_false]
   intro y hy
   obtain ⟨z,t,hkey⟩:=hk y (x6.mp hy)
   simp[DictEntry.refKey,hkey]
  have a':¬ es.toList.any (·.refKey)=true:=by rw[a];exact xw
  rw[if_neg a']
  exact congrArg some e
theorem vd.look {h:Heap}{x dx C:Addr}{mA:Str->Option xb}(I:vd h x dx C mA):∃od,PySem.W.InstAt h x (PySem.W.instObj C dx) C (some od)/\∀name,PySem.W.lookIn name od=some (mA name) :=
 let ⟨od,ho,hl⟩:=pP I.ns
 ⟨od,⟨I.obj,rfl,rfl,ho⟩,hl⟩
section
variable  {prog:xA}{w:xQ}{A:yh}{E:xb->xh->Prop}{s:xh}{K:wY}{x dx C f:Addr}{mA:Str->Option xb}{name:Str}{v:xb}
end
section
variable  {P:xA}{w:xQ}{H H':Hp}{h h':Heap}{a C dx:Addr}{fs fs':List (Str×V)}
theorem sR (hok:HOk P w H h)(e:H a=some (.ins C dx fs)):∃mA,vd h a dx C mA/\(∀f,pJ (fs.lookup f) (mA f))/\PySem.Within mA (fs.map (·.1))/\fs.length<=1000/\H dx=some (.own a):=by
 obtain ⟨d,z,ne,ob,mA,n,r,q⟩:=(show bo P w H h a (.ins C dx fs) from hok a _ e)
 exact ⟨mA,⟨ob,n,ne⟩,r,q,z,d⟩
end
structure Cls (K:wY)(C:Addr):Prop where
 pg:PySem.W.plainGet K C Str.empty=true
 hd:PySem.W.hasDictIn K C=true
 po:PySem.W.plainOver K C=true
 sa:PySem.W.findIn K (.ref C) "__setattr__" = some (some (.builtin "object.__setattr__"))
theorem Cls.get {K:wY}{C:Addr}(c:Cls K C)(f:Str):PySem.W.plainGet K C f=true:=c.pg
section
variable  {X:Cx}{pins:List (Addr×Obj)}{σ:St}{H:Hp}{s:xh}{a C dx:Addr}{fs:List (Str×V)}{f:Str}{v:V}{A:yh}{E:xb->xh->Prop}
end
section
variable  {X:Cx}{o e value:Expr}{f:Str}{pos pos' tpos:Pos}{ta tv:TE}
end
section
variable  {X:Cx}{pins:List (Addr×Obj)}{σ:St}{H:Hp}{s:xh}{A:yh}{E:xb->xh->Prop}{Q:xb->xh->Prop}{c:xb}{b:Bool}
inductive gL (K:wY)(H:Hp):V->xb->Prop where
 | non:gL K H .non (.type "NoneType")
 | bl (x:Bool):gL K H (.bl x) (.type "bool")
 | int (i:Int):gL K H (.int i) (.type "int")
 | str (x:Str):gL K H (.str x) (.type "str")
 | flt (x:UInt64):gL K H (.flt x) (.type "float")
 | lst {a:Addr} {xs:List V} (e:H a=some (.lst xs)):gL K H (.ref a) (.type "list")
 | frz {a:Addr} {o:Obj} {xs:List V} (e:H a=some (.frz o (.lst xs))):gL K H (.ref a) (.type "list")
 | tup {a:Addr} {xs:List V} (e:H a=some (.tup xs)):gL K H (.ref a) (.type "tuple")
 | dK {a:Addr} {kvs:List (Key×V)} (e:H a=some (.dK kvs)):gL K H (.ref a) (.type "dict")
 | dT {a:Addr} {kvs:List (List Key×V)} (e:H a=some (.dT kvs)):gL K H (.ref a) (.type "dict")
 | ins {a C dx:Addr} {fs:List (Str×V)} (e:H a=some (.ins C dx fs)) (cl:Cls K C) (ha:PySem.W.findIn K (.ref C) "__class__" = some (some (.builtin "object.__class__")))
   (hn:PySem.W.specialIn K (.builtin "object.__class__") "__get__" = some (some (.builtin "getset_descriptor.__get__"))) (htk:PySem.W.takesIn K (.builtin "object.__class__")=some true)
   (hm:PySem.W.mroIn K C (.type "object")=some true):gL K H (.ref a) (.ref C)
theorem pQ {x:V}{u t:xb}(I:Inv X pins σ H s)(rx:RelV x u)(ty:gL X.K H x t)(e:PySem.W.kitOne X.K t c=some b)(h:∀tk,Q (.bool b) { s with toks:=tk }) :
  xM (xT X.prog X.w) A (call (.builtin "isinstance") [u,c]) Q E s:=by
 cases ty with
 | non=>cases (show u=zc from rx);exact yY PySem.W.kitx_none I.kIn True.intro e (λz=>nomatch z) h
 | bl y=>cases (show u=Value.bool y from rx);exact yY PySem.W.kitx_bool I.kIn True.intro e (λz=>nomatch z) h
 | int i=>obtain ⟨t,q⟩:=(show ∃t,u=yJ i t from rx);cases q;exact yY PySem.W.kitx_int I.kIn True.intro e (λz=>nomatch z) h
 | str y=>obtain ⟨t,q⟩:=(show ∃t,u=Value.str y t from rx);cases q;exact yY PySem.W.kitx_str I.kIn True.intro e (λz=>nomatch z) h
 | flt y=>obtain ⟨t,q⟩:=(show ∃t,u=Value.float y t from rx);cases q;exact yY PySem.W.kitx_float I.kIn True.intro e (λz=>nomatch z) h
 | @lst a xs ea =>
  cases (show u=xB a from rx)
  obtain ⟨_,_,n,_,h1⟩:=(show bo X.prog X.w H s.heap a (.lst xs) from I.hok a _ ea)
  exact yY DA I.kIn ⟨_,h1,rfl⟩ e (λz=>nomatch z) h
 | @frz a ob xs ea =>
  cases (show u=xB a from rx)
  obtain ⟨_,_,_,n,_,h1⟩:=(show bo X.prog X.w H s.heap a (.frz ob (.lst xs)) from I.hok a _ ea)
  exact yY DA I.kIn ⟨_,h1,rfl⟩ e (λz=>nomatch z) h
 | @tup a xs ea =>
  cases (show u=xB a from rx)
  obtain ⟨_,_,_,p⟩:=(show bo X.prog X.w H s.heap a (.tup xs) from I.hok a _ ea)
  obtain ⟨o,h1,h2,_⟩:=p
  exact yY PySem.W.kitx_tuple I.kIn ⟨o,h1,h2.1⟩ e (λz=>nomatch z) h
 | @dK a kvs ea =>
  cases (show u=xB a from rx)
  obtain ⟨_,_,vs,_,p⟩:=(show bo X.prog X.w H s.heap a (.dK kvs) from I.hok a _ ea)
  obtain ⟨o,es,ep,h1,h2,_⟩:=p
  exact yY DB I.kIn ⟨o,h1,h2.1⟩ e (λz=>nomatch z) h
 | @dT a kvs ea =>
  cases (show u=xB a from rx)
  obtain ⟨_,_,xs,_,o,es,ep,h1,h2,_⟩:=(show bo X.prog X.w H s.heap a (.dT kvs) from I.hok a _ ea)
  exact yY DB I.kIn ⟨o,h1,h2.1⟩ e (λz=>nomatch z) h
 | @ins a C dx fs ea cl ha hn htk hm =>
  cases (show u=xB a from rx)
  obtain ⟨mA,O,_⟩:=sR I.hok ea
  obtain ⟨od,J,_⟩:=O.look
  exact yY (PySem.W.kitx_own (cl.get _) cl.hd ha hn htk hm) I.kIn J e (λz=>nomatch z) h
end
open PySem PySem.Spec PyProof.Rows
structure cq (k:Nat)(A:yh):Prop where
 hd:A.handled=none
 dp:A.depth+3*k+5<recursionLimit
 un:A.units+16*k+200<cLine
theorem cq.mono {j k:Nat}{A:yh}(r:cq k A)(h:j<=k):cq j A:=⟨r.hd,by have:=r.dp;lia,by have:=r.un;lia⟩
theorem cq.deeper {k:Nat}{A:yh}(r:cq (k+1) A)(env:Env):cq k (A.deeper env) :=
 ⟨r.hd,by have:=r.dp;show A.depth+1+3*k+5<_;lia,by have:=r.un;show A.units+3+16*k+200<_;lia⟩
theorem cq.depth {k:Nat}{A:yh}(r:cq k A):A.depth<recursionLimit:=by have:=r.dp;lia
theorem cq.units {k:Nat}{A:yh}(r:cq k A):A.units+64<cLine:=by have:=r.un;lia
def tNil:TA:=λ_ H Q=>Q [] H
def wo (ta:TE)(tr:TA):TA:=λσ H Q=>ta σ H λx H1=>tr σ H1 λxs H2=>Q (x :: xs) H2
section
variable  {X:Cx}{e:Expr}{es:List Expr}{te:TE}{t:TA}{pos:Pos}
theorem af:PA X [] tNil:=λ_ _ _ _ H Q I h=>Calls.spliced_nil ⟨[],H,I,.nil,h⟩
theorem aa (ha:PE X e te)(hr:PA X es t)(hs:yO (e :: es) X.env=(false,eval e X.env) :: yO es X.env:=by rfl):PA X (e :: es) (wo te t):=by
 intro pos pins s σ H Q I h
 rw[hs]
 show xM _ _ (spliced ((false,eval e X.env) :: C4 pos (yO es X.env))) _ _ s
 refine Calls.spliced_cons (thn (ha pins s σ H _ I h) λu s1 ⟨x,H1,I1,r1,q1⟩ =>?_)
 exact thn (hr pos pins s1 σ H1 _ I1 q1) λus s2 ⟨xs,H2,I2,r2,q2⟩=>⟨x :: xs,H2,I2,.cons r1 r2,q2⟩
def tTup (t:TA):TE:=λσ H Q=>t σ H λxs H1=>xs.length<=xf/\∀p,H1 p=none->Q (.ref p) (upd H1 p (.tup xs))
def tLst (t:TA):TE:=λσ H Q=>t σ H λxs H1=>xs.length<=xf/\∀p,H1 p=none->Q (.ref p) (upd H1 p (.lst xs))
theorem aN {x1}(h:PA X es t):PE X (.Tuple es x1 pos) (tTup t):=by
 intro pins s σ H Q I hq
 refine wpAny_Tuple_spliced (thn (h pos pins s σ H _ I hq) λus s1 ⟨xs,H1,I1,r,z,q⟩=>⟨by rw[<- r.length];exact z,?_⟩)
 have hf:H1 s1.heap.objs.size=none:=I1.hok.fresh (xg _)
 refine ⟨.ref s1.heap.objs.size,upd H1 s1.heap.objs.size (.tup xs),I1.laid (t':=s1.toks) (λb u e=>wX _ e) (xg _) ?_,rfl,q _ hf⟩
 exact ⟨z,us,r,⟨_,xr _ rfl,⟨rfl,rfl⟩,_,rfl⟩⟩
theorem aI (h:PA X es t):PE X (.List es pos) (tLst t):=by
 intro pins s σ H Q I hq
 refine wpAny_List_spliced (thn (h pos pins s σ H _ I hq) λus s1 ⟨xs,H1,I1,r,z,q⟩=>⟨by rw[<- r.length];exact z,?_⟩)
 have hf:H1 s1.heap.objs.size=none:=I1.hok.fresh (xg _)
 refine ⟨.ref s1.heap.objs.size,upd H1 s1.heap.objs.size (.lst xs),I1.laid (t':=s1.toks) (λb u e=>wX _ e) (xg _) ?_,rfl,q _ hf⟩
 exact ⟨z,us,0,r,xr _ rfl⟩
end
abbrev Sp:=List V->Hp->VK->XK->Prop
abbrev CXT:=List Env->Hp->xh->XK->xb->xh->Prop
structure sS (P:xA)(w:xQ)(K:wY)(mg:Str->Option xb)(base:Heap)(A:yh)(outer:List Env)(s:xh)(H:Hp):Prop where
 frames:A.frames=some outer
 mod:Mod K mg base
 bs:∀b o,base.get? b=some o->s.heap.get? b=some o/\H b=none
 bsz:base.objs.size<=s.heap.objs.size
 funs:s.heap.FunFrames base outer
 frf:∀b∈frs outer,H b=none
 hok:HOk P w H s.heap
 bare:AllBare s.gens
def CE (outer:List Env)(P:xA)(w:xQ)(H:Hp)(s:xh)(Q:VK)(u:xb)(s':xh):Prop :=
 ∃v H',s'.os=s.os/\AllBare s'.gens/\Un (frs outer) [] H H' s.heap s'.heap/\HOk P w H' s'.heap/\RelV v u/\Q v H'
def CR (CX:CXT)(outer:List Env)(P:xA)(w:xQ)(H:Hp)(s:xh)(Q:VK)(E:XK)(r:Result)(s':xh):Prop :=
 match r with
 | .ok (.ret u)=>CE outer P w H s Q u s'
 | .ok _=>False
 | .error e=>CX outer H s E e s'
structure bG (P:xA)(w:xQ)(K:wY)(mg:Str->Option xb)(base:Heap)(CX:CXT)(k:Nat)(f:Addr)(fd:yd)(ps:List Str)(sp:Sp):Prop where
 len:∀vs H Q E,sp vs H Q E->vs.length=ps.length
 run:∀(A:yh) (outer:List Env) (s:xh) (H:Hp) (args:Args) (us:List xb) (vs:List V) (Q:VK) (E:XK),cq k A->sS P w K mg base A outer s H->BindsTo s fd args (ps.zip us)->Vals vs us->sp vs H Q E →
  Bl (xT P w) A (.call (.ref f) args) (CR CX outer P w H s Q E) s
section
variable  {X:Cx}{pins:List (Addr×Obj)}{σ:St}{H:Hp}{s s':xh}
theorem Inv.env0 (I:Inv X pins σ H s):sS X.prog X.w X.K X.mg X.base X.A X.stack s H :=
 ⟨I.ok.frames,I.ok.mod,I.bs,ye I.ok.bsz I.sz,I.stack,I.oi,I.hok,I.bare⟩
theorem Inv.after {Q:VK}{u:xb}(I:Inv X pins σ H s)(h:CE X.stack X.prog X.w H s Q u s'):EP X pins σ Q u s':=by
 obtain ⟨v,H',os,bare,un,hok,r,q⟩:=h
 obtain ⟨hh,g,d,t,os'⟩:=s'
 obtain rfl:os'=s.os:=os
 exact ⟨v,H',I.call (h':=hh) (g':=g) (d':=d) (t':=t) (ch:=[]) un hok bare (λb z=>absurd z (by simp)),r,q⟩
end
def uE (sp:Sp)(dvs:List V)(E:XK)(t:TA):TE:=λσ H Q=>t σ H λvs H1=>sp (vs++dvs) H1 Q E
def Binds (K:wY)(fd:yd)(ps:List Str)(ds:List xb):Prop :=
 ∀(s:xh) (us:List xb),K.In s.heap->(us++ds).length=ps.length->BindsTo s fd ⟨us,[]⟩ (ps.zip (us++ds))
theorem Binds.all {K:wY}{fd:yd}{ps:List Str}(h:∀us:List xb,us.length=ps.length->bindArgs fd ⟨us,[]⟩=pure (ps.zip us)):Binds K fd ps []:=λs us _ hl=>by
 rw[yu] at hl ⊢
 exact .of_eq (h us hl)
def Passes (CX:CXT)(X:Cx)(E:XK):Prop:=∀(pins:List (Addr×Obj)) (σ:St) (H:Hp) (s:xh) (e:xb) (s':xh),Inv X pins σ H s->CX X.stack H s E e s'->X.xe e s'
section
variable  {X:Cx}{CX:CXT}{k:Nat}{f C:Addr}{fd:yd}{ps:List Str}{sp:Sp}{dvs:List V}{ds:List xb}{E:XK}{x m:Str}{p pos apos:Pos}{e o:Expr}{es:List Expr}{ta:TE}{t:TA}
theorem q8 {pins:List (Addr×Obj)}{σ:St}{H:Hp}{s:xh}{Q:VK}{us:List xb}{vs:List V}(F:bG X.prog X.w X.K X.mg X.base CX k f fd ps sp)(hr:cq k X.A)(hb:Binds X.K fd ps ds)(hd:Vals dvs ds)(hx:Passes CX X E)
  (I:Inv X pins σ H s) (r:Vals vs us) (h:sp (vs++dvs) H Q E):xM (xT X.prog X.w) X.A (call (.ref f) us) (EP X pins σ Q) X.xe s:=by
 have r2:Vals (vs++dvs) (us++ds):=r.append hd
 have hl:(us++ds).length=ps.length:=by rw[<- r2.length];exact F.len _ _ _ _ h
 refine Em (AQ (F.run X.A X.stack s H ⟨us,[]⟩ (us++ds) (vs++dvs) Q E hr I.env0 (hb s us I.kIn hl) r2 h) λr s' hq =>?_)
 cases r with
 | error e=>exact hx pins σ H s e s' I hq
 | ok fl =>
  cases fl with
  | ret u=>exact I.after hq
  | next=>exact False.elim hq
  | brk=>exact False.elim hq
  | cont=>exact False.elim hq
theorem sT (F:bG X.prog X.w X.K X.mg X.base CX k f fd ps sp)(hr:cq k X.A)(hg:Gl X x)(hm:X.mg x=some (.ref f))(hk:PySem.W.keepIn X.K (.ref f)=true)(hb:Binds X.K fd ps ds)(hd:Vals dvs ds)(hx:Passes CX X E)
  (ha:PA X (e :: es) t) (hdb:(x == ("__debug__" : Str))=false:=by decide) (he:yO (e :: es) X.env=(false,eval e X.env) :: yO es X.env:=by rfl) (hpl:(C4 pos (yO es X.env)).any (·.1)=false:=by rfl) :
  PE X (.Call (.Name x p) (e :: es) [] pos) (uE sp dvs E t):=by
 intro pins s σ H Q I h
 refine Aj (oj I hg hm ?_ hdb)
 refine Dg (h₀:=X.base) I.ok.mod.kin hk (thn (ha pos pins s σ H _ I h) λus s1 ⟨vs,H1,I1,r,q⟩=>⟨I1.kIn,?_⟩) he hpl
 exact q8 F hr hb hd hx I1 r q
end
section
variable  {X:Cx}{CX:CXT}{k:Nat}{f C:Addr}{fd:yd}{ps ks:List Str}{sp:Sp}{E:XK}{x m:Str}{p pos apos kpos:Pos}{e o:Expr}{es:List Expr}{kws:List Keyword}{te ta:TE}{t tk:TA}{nm:Option Str}
variable  {g:List xb->List xb->List xb}{gV:List V->List V->List V}
end
structure aQ (N P:List Str)(sc:Scope):Prop where
 kind:sc.kind = .function
 co:sc.isCoroutine=false
 gen:sc.isGenerator=false
 nd:N.Nodup
 pre:N.take P.length=P
 par:∀x∈P,sc.names.lookup x=some .local\/sc.names.lookup x=some .cell
 nofree:∀y∈sc.names,y.2 ≠ .free
theorem jV {kindOf:Str->Option NameKind}{x:Str}:∀{binds:List (Str×xb)} {m:Str->Option xb},(∀v,(x,v)∉binds)->bindL kindOf binds m x=m x
 | [],_,_=>rfl
 | (n,v) :: r,m,h=>by
  unfold bindL
  rw[jV λw hw=>h w (xR _ hw)]
  split
  ·have:x≠n:=by rintro rfl;exact h v xN
   simp[this]
  ·rfl
theorem jW {kindOf:Str->Option NameKind}{x:Str}:∀{binds:List (Str×xb)} {m:Str->Option xb},(∀v,(x,v)∉binds)->bindC kindOf binds m x=m x
 | [],_,_=>rfl
 | (n,v) :: r,m,h=>by
  unfold bindC
  rw[jW λw hw=>h w (xR _ hw)]
  split
  ·rfl
  ·have:x≠n:=by rintro rfl;exact h v xN
   simp[this]
theorem jX {kindOf:Str->Option NameKind}{x:Str}{v:xb}:∀{P:List Str} {vs:List xb} {i:Nat} {m:Str->Option xb},P.Nodup->P[i]? = some x->vs[i]? = some v->kindOf x=some .local →
  bindL kindOf (P.zip vs) m x=some v
 | [],_,_,_,_,h,_,_=>by simp at h
 | _ :: _,[],_,_,_,_,h,_=>by simp at h
 | p :: P,w :: vs,0,m,nd,h1,h2,hk=>by
  simp at h1 h2;subst h1;subst h2
  show bindL kindOf ((p,w) :: P.zip vs) m p=_
  unfold bindL
  rw[jV λv hv=>(AR.mp nd).1 (Cy hv).1,if_pos hk]
  simp
 | p :: P,w :: vs,i+1,m,nd,h1,h2,hk=>by
  show bindL kindOf ((p,w) :: P.zip vs) m x=_
  unfold bindL
  exact jX (i:=i) (AR.mp nd).2 (by simpa using h1) (by simpa using h2) hk
theorem jY {kindOf:Str->Option NameKind}{x:Str}{v:xb}:∀{P:List Str} {vs:List xb} {i:Nat} {m:Str->Option xb},P.Nodup->P[i]? = some x->vs[i]? = some v->kindOf x≠some .local →
  bindC kindOf (P.zip vs) m x=some v
 | [],_,_,_,_,h,_,_=>by simp at h
 | _ :: _,[],_,_,_,_,h,_=>by simp at h
 | p :: P,w :: vs,0,m,nd,h1,h2,hk=>by
  simp at h1 h2;subst h1;subst h2
  show bindC kindOf ((p,w) :: P.zip vs) m p=_
  unfold bindC
  rw[jW λv hv=>(AR.mp nd).1 (Cy hv).1,if_neg hk]
  simp
 | p :: P,w :: vs,i+1,m,nd,h1,h2,hk=>by
  show bindC kindOf ((p,w) :: P.zip vs) m x=_
  unfold bindC
  exact jY (i:=i) (AR.mp nd).2 (by simpa using h1) (by simpa using h2) hk
def start (N:List Str)(vs:List V):St:=vs.map some++yg (N.length-vs.length) none
def mX (CX:CXT)(P:xA)(w:xQ)(K:wY)(mg:Str->Option xb)(base:Heap)(N:List Str)(qual:Str)(scope:Scope)(f:Addr)(cd:xb)(A:yh)(outer:List Env)(s:xh)(H:Hp)(E:XK):Cx where
 prog:=P
 w:=w
 K:=K
 mg:=mg
 base:=base
 A:=A.deeper (envOfC qual scope s.heap.objs.size f cd)
 N:=N
 s₀:=s
 H₀:=H
 env:=envOfC qual scope s.heap.objs.size f cd
 outer:=outer
 stack:=envOfC qual scope s.heap.objs.size f cd :: outer
 ex:=[]
 calm:=true
 fn:=λ_=>true
 pn:=[]
 xe:=λe s'=>xM (xT P w) (A.deeper (envOfC qual scope s.heap.objs.size f cd)) (leaving (envOfC qual scope s.heap.objs.size f cd) e) (λ_ s''=>CX outer H s E e s'') (λe' s''=>CX outer H s E e' s'') s'
theorem lN {sc:Scope}{n:Nat}{x:Str}(h:sc.names.lookup x=some .cell):∃c,(cellsFrom n sc.names []).lookup x=some c:=by
 have q:=Cq sc.names n [] (.inl h)
 exact B4.mp q
theorem pR {CX:CXT}{P:xA}{w:xQ}{K:wY}{mg:Str->Option xb}{base:Heap}{N ps:List Str}{qual:Str}{scope:Scope}{f:Addr}{cd:xb}{A:yh}{outer:List Env}{s s1:xh}{H:Hp}{E:XK}{us:List xb}{vs:List V}
  (S:aQ N ps scope) (hd:A.handled=none) (e0:sS P w K mg base A outer s H) (hl:vs.length=ps.length) (r:Vals vs us)
  (x:InCallC s s.heap.objs.size (bindL (envOfC qual scope s.heap.objs.size f cd).kindOf (ps.zip us) λ_=>none) (cellsFrom (s.heap.objs.size+1) scope.names []) (bindC (envOfC qual scope s.heap.objs.size f cd).kindOf (ps.zip us) λ_=>none) s1) :
  Inv (mX CX P w K mg base N qual scope f cd A outer s H E) [] (start N vs) H s1:=by
 have hpl:ps.length<=N.length:=by have:=congrArg List.length S.pre;rw[yy] at this;lia
 obtain ⟨h1,tk,rfl,hk⟩:=x.done
 have noA:∀b:Addr,b∉(mX CX P w K mg base N qual scope f cd A outer s H E).ex:=λb z=>absurd (show b∈([]:List Addr) from z) (by simp)
 refine ⟨⟨e0.mod,S.kind,rfl,rfl,xg _,λy z c h1 h2 =>?_,λy hy =>?_,λy c _ h =>?_,λ_=>hd,Around.frames_deeper e0.frames,.inr ⟨rfl,rfl⟩,λb z=>absurd z (noA b),e0.bs,e0.bsz,λb _ _=>noA b,λb z=>absurd z (noA b),e0.funs,e0.frf⟩,
  rfl,e0.bare,Un.kept hk,⟨_,x.toInCall.ns,λi y v h1 h2 h3 =>?_⟩,λy c h=>⟨_,x.cell y c h⟩,e0.hok.fresh (xg _),λy c h =>?_,λp hp=>absurd (show p∈([]:List (Addr×Obj)) from hp) (by simp),e0.hok.kept hk,?_⟩
 ·exact name_of_addr x.apart (zJ h1) (zJ h2)
 ·have hy:scope.names.lookup y=some .cell\/scope.names.lookup y=some .free:=hy
  rcases hy with hy | hy
  ·exact lN hy
  ·exact absurd rfl (S.nofree _ (zJ hy))
 ·exact Ak (x.above y c (zJ h))
 ·have hi:i<vs.length:=by
   unfold start at h2
   by_cases hi:i<vs.length
   ·exact hi
   ·rw[zL (by simpa using hi)] at h2
    rw[List.getElem?_replicate] at h2
    split at h2 <;> cases h2
  have ha:vs[i]? = some v:=by
   unfold start at h2
   rw[zP (by simpa using hi),xW] at h2
   cases e:vs[i]? with
   | none=>rw[e] at h2;cases h2
   | some a=>rw[e] at h2;cases h2;rfl
  obtain ⟨u,hu,rv⟩:=r.get ha
  have hp:ps[i]? = some y:=by
   rw[<- S.pre,List.getElem?_take_of_lt (by lia)];exact h1
  have ndP:ps.Nodup:=by rw[<- S.pre];exact S.nd.sublist (yA _ _)
  refine ⟨u,rv,?_⟩
  rcases S.par y (xE hp) with k | k
  ·exact .inl ⟨k,jX ndP hp hu k⟩
  ·obtain ⟨c,e⟩:=lN (n:=s.heap.objs.size+1) k
   refine .inr ⟨.inl k,c,e,?_⟩
   have q:=x.cell y c e
   rw[jY ndP hp hu (by show scope.names.lookup y≠_;rw[k];decide)] at q
   exact q
 ·exact e0.hok.fresh (Ak (x.above y c (zJ h)))
 ·unfold start
  show _=N.length
  rw[w9,wW,Bc]
  lia
theorem wq {CX:CXT}{P:xA}{w:xQ}{K:wY}{mg:Str->Option xb}{base:Heap}{k:Nat}{f:Addr}{name qual:Str}{params:Arguments}{body:List Stmt}{scope:Scope}{dV kV doc pm cdv ct oc:xb}{an od:Option Addr}
  {osl:Array (Option xb)} {N ps:List Str} {sp:Sp} (lk:K.lookup f=some ⟨oc,od,.func (PySem.W.fnOf name qual params body scope dV kV doc pm an cdv ct),osl⟩) (hcd:PySem.W.codeIn K cdv qual=true) (S:aQ N ps scope)
  (len:∀vs H Q E,sp vs H Q E->vs.length=ps.length)
  (hbody:∀(A:yh) (outer:List Env) (s:xh) (H:Hp) (vs:List V) (Q:VK) (E:XK),cq k (A.deeper (envOfC qual scope s.heap.objs.size f cdv))->sp vs H Q E →
   ∃t,PSs (mX CX P w K mg base N qual scope f cdv A outer s H E) body t/\t { nx:=λ_ H'=>Q .non H',rt:=Q } (start N vs) H) :
  bG P w K mg base CX (k+1) f (PySem.W.fnOf name qual params body scope dV kV doc pm an cdv ct) ps sp:=by
 refine ⟨len,λA outer s H args us vs Q E hr e0 hb r hsp =>?_⟩
 have hl:=len _ _ _ _ hsp
 have KX:K.In s.heap:=e0.mod.kin.keeps λb o e=>(e0.bs b o e).1
 have lim:s.heap.NoLimit:=e0.mod.nolimit.keeps λb o e=>(e0.bs b o e).1
 have hkind:∀y∈ps.zip us,scope.names.lookup y.1=some .local\/(scope.names.lookup y.1=some .cell/\((cellsFrom (s.heap.objs.size+1) scope.names []).lookup y.1).isSome=true):=λ⟨n,v⟩ hy=>by
  rcases S.par n (Cy hy).1 with q | q
  ·exact .inl q
  ·exact .inr ⟨q,Cq _ _ _ (.inl q)⟩
 refine codeAny_call_function hr.depth (KX _ _ lk) rfl S.co S.gen rfl (PySem.W.codeRec_of KX hcd) (hb _ _ _ _ ?_)
 refine wpAny_newFunctionEnv_cells S.kind hkind λenv he s1 x =>?_
 subst he
 refine ⟨lim.keeps x.toInCall.keep,codeAny_func ?_⟩
 obtain ⟨t,ht,hq⟩:=hbody A outer s H vs Q E (hr.deeper _) hsp
 have I:Inv (mX CX P w K mg base N qual scope f cdv A outer s H E) [] (start N vs) H s1:=pR S hr.hd e0 hl r x
 refine zX (ht [] s1 (start N vs) H _ I hq) (λfl s' hs =>?_) λe s' hs=>hs
 have fin:∀{σ':St} {H':Hp} {v:V} {u:xb},Inv (mX CX P w K mg base N qual scope f cdv A outer s H E) [] σ' H' s'->RelV v u->Q v H'->CE outer P w H s Q u s' :=
  λ{σ' H' v u} J rv q=>⟨v,H',J.os,J.bare,J.base,J.hok,rv,q⟩
 cases fl with
 | ret u =>
  obtain ⟨v,σ',H',J,rv,q⟩:=hs
  exact fin J rv q
 | next =>
  obtain ⟨σ',H',J,q⟩:=hs
  exact fin (v:=V.non) (u:=zc) J rfl q
 | brk =>
  obtain ⟨_,_,_,q⟩:=hs
  exact False.elim q
 | cont =>
  obtain ⟨_,_,_,q⟩:=hs
  exact False.elim q
open PySem PySem.Spec PyProof.Rows
section
variable  {X:Cx}{x:Str}{p pos:Pos}{e:Expr}{es:List Expr}{t:TA}{id T:String}{r:List V->Hp->VK->Prop}
def tCB (r:List V->Hp->VK->Prop)(t:TA):TE:=λσ H Q=>t σ H λvs H1=>r vs H1 Q
theorem aA (hc:bK X (.builtin id) r)(hg:Gl X x)(hm:X.mg x=none)(hv:yo x=some (.builtin id))(ha:PA X (e :: es) t)(hn:x ≠ "__name__" := by decide)(hdb:(x == ("__debug__" : Str))=false:=by decide)
  (he:yO (e :: es) X.env=(false,eval e X.env) :: yO es X.env:=by rfl) (hpl:(C4 pos (yO es X.env)).any (·.1)=false:=by rfl):PE X (.Call (.Name x p) (e :: es) [] pos) (tCB r t):=by
 intro pins s σ H Q I h
 refine Aj (fN I hg hm hv ?_ hn hdb)
 exact PyProof.Rows.callWith_builtin1 (thn (ha pos pins s σ H _ I h) λus s1 ⟨vs,H1,I1,r1,q1⟩=>hc pins s1 σ H1 vs us Q I1 r1 q1) he hpl
theorem bb (hc:bK X (.type T) r)(hg:Gl X x)(hm:X.mg x=none)(hv:yo x=some (.type T))(ha:PA X (e :: es) t)(hn:x ≠ "__name__" := by decide)(hdb:(x == ("__debug__" : Str))=false:=by decide)
  (he:yO (e :: es) X.env=(false,eval e X.env) :: yO es X.env:=by rfl) (hpl:(C4 pos (yO es X.env)).any (·.1)=false:=by rfl):PE X (.Call (.Name x p) (e :: es) [] pos) (tCB r t):=by
 intro pins s σ H Q I h
 refine Aj (fN I hg hm hv ?_ hn hdb)
 exact zd (thn (ha pos pins s σ H _ I h) λus s1 ⟨vs,H1,I1,r1,q1⟩=>hc pins s1 σ H1 vs us Q I1 r1 q1) he hpl
end
end L2
namespace HT
open PySem PyProof.Rows
def lexLt:List Int->List Int->Bool
 | [],[]=>false
 | [],_ :: _=>true
 | _ :: _,[]=>false
 | x :: xs,y :: ys=>if x=y then lexLt xs ys else decide (x<y)
theorem dP (x y:Int)(xs ys:List Int):lexLt (x :: xs) (y :: ys)=if x=y then lexLt xs ys else decide (x<y):=rfl
theorem lP (A:yh)(s:xh)(a:Int)(t:Tok)(c:Int)(u:Tok)(prog:xA)(w:xQ)(E:xb->xh->Prop)(Q:xb->xh->Prop)(h:Q (.bool (decide (a<c))) s) :
  xM (xT prog w) A (richCompare .Lt (.int a t) (.int c u)) Q E s :=
 (PyProof.Rows.lt_int h:xM (xT prog w) A (yI .Lt (.int a t) (.int c u)) Q E s)
section
open PySem.SeqAt
open PySem.AutoSeq1 (wpAny_loadPart')
open PySem.MeetsSeq PySem.MeetsSeq2 PySem.MeetsSeq3
end
section
variable  {prog:xA}{w:xQ}{A:yh}{E:xb->xh->Prop}{s:xh}
theorem sU {t b:Addr}{vs ws:List xb}{Q:xb->xh->Prop}(ht:IsTup s.heap t vs.toArray)(hb:IsTup s.heap b ws.toArray)(hv:vs≠[])
  (h1:ws=[]->Q (.ref t) s) (h2:ws≠[]->Q (.ref s.heap.objs.size) { s with heap:=s.heap.push { cls :=.type "tuple",data :=.seq (vs++ws).toArray } })
  (hsz:vs.length+ws.length<=xf):xM (xT prog w) A (binaryOp .Add (.ref t) (.ref b)) Q E s:=by
 obtain ⟨⟨cls,dd,data,sl⟩,ho,hc,n,hd⟩:=id ht
 obtain ⟨⟨cls2,dd2,data2,sl2⟩,ho2,hc2,n2,hd2⟩:=id hb
 simp only at hc hd hc2 hd2
 subst hc hd hc2 hd2
 have e:vs.toArray++ws.toArray=(vs++ws).toArray:=by simp
 by_cases hw:ws=[]
 ·exact CQ ⟨_,ho,rfl⟩ ⟨_,ho2,rfl⟩ Cp Dw A6 AS (AJ _ _)
   (tuple_addW1 t b vs.toArray ws.toArray n n2 dd dd2 sl sl2 (by simpa using hv) (by simp[hw])) ⟨ho,ho2,h1 hw⟩
 ·refine CQ ⟨_,ho,rfl⟩ ⟨_,ho2,rfl⟩ Cp Dw A6 AS (AJ _ _)
   (tuple_addW2 t b vs.toArray ws.toArray n n2 dd dd2 sl sl2 (by simpa using hv) (by simpa using hw) (by rw[xc,xc];exact hsz)) ⟨ho,ho2,?_⟩
  rw[e]
  exact h2 hw
def sIx (n d:Nat):Option Int->Nat
 | none=>d
 | some v=>if v<0 then (v+(n:Int)).toNat else min v.toNat n
theorem ve (n d:Nat)(hd:d<=n)(o:Option Int):sIx n d o<=n:=by
 cases o with
 | none=>exact hd
 | some v =>
  show (if v<0 then (v+(n:Int)).toNat else min v.toNat n)<=n
  by_cases hv:v<0
  ·rw[if_pos hv];lia
  ·rw[if_neg hv];exact Nat.min_le_right _ _
theorem ox (v:Int)(n d:Nat):(if v<0 then max (v+(n:Int)) 0 else min v (n:Int))=((sIx n d (some v):Nat):Int):=by
 show (if v<0 then max (v+(n:Int)) 0 else min v (n:Int))=(((if v<0 then (v+(n:Int)).toNat else min v.toNat n):Nat):Int)
 by_cases hv:v<0
 ·simp only[if_pos hv];lia
 ·simp only[if_neg hv];lia
theorem mY (lo hi:Option Int)(n:Nat):Builtin.Slice.sliceAdjust lo hi 1 (n:Int)=(((sIx n 0 lo:Nat):Int),((sIx n n hi:Nat):Int)):=by
 have h1:¬ ((1:Int)<0):=by lia
 unfold Builtin.Slice.sliceAdjust
 simp only[h1,if_false]
 refine Es ?_ ?_
 ·cases lo with
  | none=>rfl
  | some v=>exact ox v n 0
 ·cases hi with
  | none=>rfl
  | some v=>exact ox v n n
theorem mZ (i j:Nat):Builtin.Slice.slicePlaces (i:Int) (j:Int) 1=j-i:=by
 unfold Builtin.Slice.slicePlaces
 have h1:(1:Int)>0:=by lia
 simp only[h1,if_true,Int.ediv_one]
 split <;> lia
theorem iS {v:xb}{o:Option Int}{Q:Option Int->xh->Prop}(p:IsPart v o)(h:Q o s):xM (xT prog w) A (Builtin.Slice.slicePartIndex v) Q E s:=by
 cases p with
 | none=>exact B1 h
 | int i t=>exact slicePart_int h
theorem dH {sl:Addr}{vl vu:xb}{lo hi:Option Int}{n:Nat}{Q:Int×Int×Nat->xh->Prop}(hs:s.heap.IsSliceOf sl vl vu .none)(pl:IsPart vl lo)(pu:IsPart vu hi)
  (h:Q (((sIx n 0 lo:Nat):Int),1,sIx n n hi-sIx n 0 lo) s):xM (xT prog w) A (Builtin.Slice.sliceApplied (.ref sl) (pure (n:Int))) Q E s:=by
 obtain ⟨os,hos,hcs,hds⟩:=id hs
 unfold Builtin.Slice.sliceApplied Builtin.Slice.sliceFields
 refine wZ (wZ (zR hos hds (x:=vl) rfl (wZ (zR hos hds (x:=vu) rfl (wZ (zR hos hds (x :=.none) rfl (xn ?_)))))))
 refine wZ (B1 ?_)
 show xM _ _ (if ((1:Int) == 0)=true then _ else _) _ _ s
 rw[if_neg (by decide)]
 refine wZ (iS pl (wZ (iS pu (wZ (xn ?_)))))
 show xM _ _ (match Builtin.Slice.sliceAdjust lo hi 1 (n:Int) with | (lo,hi)=>pure (lo,(1:Int),Builtin.Slice.slicePlaces lo hi 1)) _ _ s
 rw[mY lo hi n]
 show xM _ _ (pure (((sIx n 0 lo:Nat):Int),(1:Int),Builtin.Slice.slicePlaces ((sIx n 0 lo:Nat):Int) ((sIx n n hi:Nat):Int) 1)) _ _ s
 rw[mZ]
 exact xn h
theorem q9 (xs:Array xb)(i k:Nat):((yj k).filterMap λ(m:Nat)=>xs[((i:Int)+(m:Int)*1).toNat]?).toArray=((xs.toList.drop i).take k).toArray:=by
 have e:(λ(m:Nat)=>xs[((i:Int)+(m:Int)*1).toNat]?)=λm=>xs[i+m]? := by
  funext m
  have:((i:Int)+(m:Int)*1).toNat=i+m:=by lia
  rw[this]
 rw[e]
 have:=pick_run xs i k
 rw[List.filterMap_map] at this
 have e2:((λx=>xs[x]?) ∘ λx=>i+x)=λm=>xs[i+m]? := rfl
 rw[e2] at this
 rw[this]
theorem gk {t sl:Addr}{items:Array xb}{vl vu:xb}{lo hi:Option Int}{Q:xb->xh->Prop}(ht:IsTup s.heap t items)(hs:s.heap.IsSliceOf sl vl vu .none)(pl:IsPart vl lo)(pu:IsPart vu hi)
  (hw:¬ (sIx items.size 0 lo=0/\sIx items.size items.size hi=items.size))
  (h:Q (.ref s.heap.objs.size) { s with heap:=s.heap.push { cls :=.type "tuple",data :=.seq ((items.toList.drop (sIx items.size 0 lo)).take (sIx items.size items.size hi-sIx items.size 0 lo)).toArray } })
  (hsz:items.size<=xf):xM (xT prog w) A (getItem (.ref t) (.ref sl)) Q E s:=by
 have htake:sizeOk (.seq ((items.toList.drop (sIx items.size 0 lo)).take (sIx items.size items.size hi-sIx items.size 0 lo)).toArray):=by
  show ((items.toList.drop (sIx items.size 0 lo)).take (sIx items.size items.size hi-sIx items.size 0 lo)).toArray.size<=xf
  rw[xc,yy,y3,xk]
  omega
 have hj:sIx items.size items.size hi<=items.size:=ve _ _ (xg _) hi
 obtain ⟨os,hos,hcs,hds⟩:=id hs
 have hTs:s.TypeIs (.ref sl) "slice" :=⟨os,hos,hcs⟩
 unfold getItem
 try with_reducible refine yL ?_
 first | refine wZ (xn ?_) | skip
 refine wZ (B8 ht.typeIs (by decide) ?_)
 refine wZ (yM (name:=Str.ofString "__getitem__") ht.typeIs yb
  (yr yb ht.typeIs entry_tuple_getitem ?_ (BM _ _)))
 show xM _ _ (Builtin.Tuple.tupleItemsOf (.ref t) >>= _) _ _ s
 refine wZ (Dx ht ?_)
 refine wZ (Aq hTs ?_)
 rw[if_pos (by decide)]
 refine wZ (dH hs pl pu ?_)
 have hno:¬ ((((sIx items.size 0 lo:Nat):Int) == 0 && (1:Int) == 1 && (sIx items.size items.size hi-sIx items.size 0 lo) == items.size)=true):=by
  intro q
  rw[yz,yz] at q
  have q1:((sIx items.size 0 lo:Nat):Int)=0:=eq_of_beq q.1.1
  have q2:sIx items.size items.size hi-sIx items.size 0 lo=items.size:=eq_of_beq q.2
  exact hw ⟨by omega,by omega⟩
 show xM _ _ (if (((sIx items.size 0 lo:Nat):Int) == 0 && (1:Int) == 1 && (sIx items.size items.size hi-sIx items.size 0 lo) == items.size)=true then _ else _) _ _ s
 rw[if_neg hno,q9]
 first
  | exact wZ (m:=Builtin.Tuple.tupleExact _) (yl (xn ⟨_,rfl,xn h⟩) htake)
  | exact wZ (m:=Builtin.Tuple.tupleExact _) (yl (wZ (xn (xn ⟨_,rfl,xn h⟩))) htake)
  | exact wZ (wZ (m:=Builtin.Tuple.tupleExact _) (yl (xn (xn ⟨_,rfl,xn h⟩)) htake))
  | exact wZ (wZ (m:=Builtin.Tuple.tupleExact _) (yl (xn ⟨_,rfl,xn h⟩) htake))
end
end HT
namespace L2
open PySem PySem.Spec PyProof.Rows
abbrev TO:=St->Hp->(Option Int->Hp->Prop)->Prop
def PO (X:Cx)(e:Option Expr)(t:TO):Prop :=
 ∀(pins:List (Addr×Obj)) (s:xh) (σ:St) (H:Hp) (Q:Option Int->Hp->Prop),Inv X pins σ H s->t σ H Q →
  xM (xT X.prog X.w) X.A (evalPart e X.env) (λu s'=>∃o H',Inv X pins σ H' s'/\IsPart u o/\Q o H') X.xe s
def sV:TO:=λ_ H Q=>Q none H
def wu (t:TE):TO:=λσ H Q=>t σ H λx H1=>∃i,x = .int i/\Q (some i) H1
theorem intsAre_of {ns:List Int}:∀{us:List xb},Vals (ns.map V.int) us->A4 us ns:=by
 induction ns with
 | nil=>intro us r;rw[DL] at r;cases r;exact .nil
 | cons n ns ih =>
  intro us r
  rw[xJ] at r
  cases r with
  | cons r1 r2 =>
   obtain ⟨t,e⟩:=r1
   subst e
   exact .cons n t (ih r2)
section
variable  {X:Cx}{e:Expr}{te:TE}{lo hi:Option Expr}{tl th:TO}{pos p2:Pos}
theorem bO:PO X none sV:=by
 intro pins s σ H Q I h
 rw[Dy]
 exact xn ⟨none,H,I,.none,h⟩
theorem bP (h:PE X e te):PO X (some e) (wu te):=by
 intro pins s σ H Q I hw
 rw[evalPart_some]
 refine thn (h pins s σ H _ I hw) λu s1 ⟨x,H1,I1,r1,q1⟩ =>?_
 obtain ⟨i,rfl,q⟩:=q1
 obtain ⟨t,rfl⟩:=r1
 exact ⟨some i,H1,I1,.int i t,q⟩
def SlR (X:Cx)(r:V->Option Int->Option Int->Hp->VK->Prop):Prop :=
 ∀(pins:List (Addr×Obj)) (s:xh) (σ:St) (H:Hp) (x:V) (v vl vu:xb) (lo hi:Option Int) (sl:Addr) (Q:VK),Inv X pins σ H s->RelV x v->s.heap.IsSliceOf sl vl vu .none->IsPart vl lo->IsPart vu hi->r x lo hi H Q →
  ∃T id,typeLookup (.type T) "__getitem__" = pure (some (.builtin id))/\s.TypeIs v T/\xM (xT X.prog X.w) X.A (getItem v (.ref sl)) (EP X pins σ Q) X.xe s
def tSl (r:V->Option Int->Option Int->Hp->VK->Prop)(te:TE)(tl th:TO):TE:=λσ H Q=>te σ H λx H1=>tl σ H1 λl H2=>th σ H2 λu H3=>r x l u H3 Q
theorem bC {r:V->Option Int->Option Int->Hp->VK->Prop}(hr:SlR X r)(he:PE X e te)(hl:PO X lo tl)(hu:PO X hi th):PE X (.Subscript e (.Slice lo hi none p2) pos) (tSl r te tl th):=by
 intro pins s σ H Q I h
 refine Subscript_ (thn (he pins s σ H _ I h) λv s1 ⟨x,H1,I1,r1,q1⟩ =>?_)
 refine wpAny_Slice (thn (hl pins s1 σ H1 _ I1 q1) λvl s2 ⟨l,H2,I2,pl,q2⟩=>thn (hu pins s2 σ H2 _ I2 q2) λvu s3 ⟨u,H3,I3,pu,q3⟩ =>?_)
 rw[Dy]
 refine xn ?_
 have I4:Inv X pins σ H3 { s3 with heap:=s3.heap.push { cls :=.type "slice",data :=.fields #[vl,vu,.none] } }:=I3.kept (t':=s3.toks) λb ob q=>wX _ q
 obtain ⟨T,id,hT,ht,hg⟩:=hr pins { s3 with heap:=s3.heap.push { cls :=.type "slice",data :=.fields #[vl,vu,.none] } } σ H3 x v vl vu l u s3.heap.objs.size Q I4 r1 (Dh ..) pl pu q3
 show xM (xT X.prog X.w) X.A (subscriptTail e (.Slice lo hi none p2) v (.ref s3.heap.objs.size)) (EP X pins σ Q) X.xe { s3 with heap:=s3.heap.push { cls :=.type "slice",data :=.fields #[vl,vu,.none] } }
 exact tail_any (ops:=[.ref s3.heap.objs.size,v]) ht hT hg (by with_unfolding_all rfl)
def bL (xs:List V)(lo hi:Option Int):List V:=(xs.drop (HT.sIx xs.length 0 lo)).take (HT.sIx xs.length xs.length hi-HT.sIx xs.length 0 lo)
theorem ia (xs:List V)(lo hi:Option Int):(bL xs lo hi).length<=xs.length:=by
 unfold bL
 rw[yy,y3]
 lia
def rSlT (K:wY):V->Option Int->Option Int->Hp->VK->Prop:=λx lo hi H Q=>∃a xs,x = .ref a/\SqT K H a xs ∧
 ¬ (HT.sIx xs.length 0 lo=0/\HT.sIx xs.length xs.length hi=xs.length)/\∀p,H p=none->Q (.ref p) (upd H p (.tup (bL xs lo hi)))
theorem vf:SlR X (rSlT X.K):=by
 intro pins s σ H x v vl vu lo hi sl Q I rx hs pl pu h
 obtain ⟨a,xs,rfl,hx,hw,q⟩:=h
 cases rx
 obtain ⟨its,r,ht,hz⟩:=I.tuple hx
 have hlen:its.toArray.size=xs.length:=by rw[xc];exact r.length.symm
 refine ⟨"tuple",_,yb.lookup,ht.typeIs,?_⟩
 refine HT.gk ht hs pl pu (by rw[hlen];exact hw) ?_ (by rw[hlen];exact hz)
 rw[hlen]
 refine ⟨.ref s.heap.objs.size,_,I.laid (t':=s.toks) (o :=.tup (bL xs lo hi)) (λb ob q=>wX _ q) (xg _) ?_,rfl,q _ (I.hok.fresh (xg _))⟩
 exact ⟨ye (ia xs lo hi) hz,_,(r.drop (HT.sIx xs.length 0 lo)).take (HT.sIx xs.length xs.length hi-HT.sIx xs.length 0 lo),cV.new _ _⟩
def wx (K:wY):R2:=λx y H Q=>∃a b xs ys,x = .ref a/\y = .ref b/\SqT K H a xs/\SqT K H b ys/\xs≠[]/\xs.length+ys.length<=xf ∧
 (ys=[]->Q (.ref a) H)/\(ys≠[]->∀p,H p=none->Q (.ref p) (upd H p (.tup (xs++ys))))
theorem Vals.iA {xs:List V}{us:List xb}(r:Vals xs us):us=[]↔xs=[]:=by
 cases r with
 | nil=>simp
 | cons _ _=>simp
theorem sW:OpR X (binaryOp .Add) (wx X.K):=by
 intro pins s σ H x y v u Q I rx ry h
 obtain ⟨a,b,xs,ys,rfl,rfl,ha,hb,hx,hz,q1,q2⟩:=h
 cases rx
 cases ry
 obtain ⟨its,r1,p1,_⟩:=I.tuple ha
 obtain ⟨its2,r2,p2,_⟩:=I.tuple hb
 refine HT.sU p1 p2 (λz=>hx (r1.iA.mp z)) (λz=>⟨.ref a,H,I,rfl,q1 (r2.iA.mp z)⟩) (λz =>?_) (by rw[<- r1.length, <- r2.length];exact hz)
 refine ⟨.ref s.heap.objs.size,_,I.laid (t':=s.toks) (o :=.tup (xs++ys)) (λb ob q=>wX _ q) (xg _) ?_,rfl,q2 (λw=>z (r2.iA.mpr w)) _ (I.hok.fresh (xg _))⟩
 exact ⟨by rw[w9];exact hz,_,r1.append r2,cV.new _ _⟩
end
open PySem PySem.Spec PyProof.Rows
def ixN (n:Nat)(i:Int):Option Nat:=if 0<=i then (if i<n then some i.toNat else none) else if -(n:Int)<=i then some (i+n).toNat else none
def atI {α:Type}(xs:List α)(i:Int):Option α:=(ixN xs.length i).bind λj=>xs[j]?
theorem oy {n:Nat}{i:Int}{j:Nat}(h:ixN n i=some j):seqIndex? i n=some j/\j<n /\ -(n:Int)<=i/\i<n:=by
 unfold ixN at h
 by_cases h0:0<=i
 ·rw[if_pos h0] at h
  by_cases h1:i<n
  ·rw[if_pos h1] at h
   have e:i.toNat=j:=x9 h
   exact ⟨by rw[D7 h0 h1,e],by lia,by lia,h1⟩
  ·rw[if_neg h1] at h;cases h
 ·rw[if_neg h0] at h
  by_cases h1 : -(n:Int)<=i
  ·rw[if_pos h1] at h
   have e:(i+n).toNat=j:=x9 h
   exact ⟨by rw[DP (by lia) h1,e],by lia,h1,by lia⟩
  ·rw[if_neg h1] at h;cases h
theorem oz {α:Type}{xs:List α}{i:Int}{v:α}(h:atI xs i=some v):∃j,seqIndex? i xs.length=some j/\xs[j]? = some v/\j<xs.length /\ -(xs.length:Int)<=i/\i<xs.length:=by
 unfold atI at h
 cases e:ixN xs.length i with
 | none=>rw[e] at h;cases h
 | some j =>
  rw[e] at h
  obtain ⟨h1,h2,h3,h4⟩:=oy e
  exact ⟨j,h1,h,h2,h3,h4⟩
theorem fu {α:Type}{xs:List α}{j:Nat}{v:α}(h:xs[j]? = some v):atI xs (j:Int)=some v:=by
 have hj:j<xs.length:=(xv.mp h).1
 have e:ixN xs.length (j:Int)=some j:=by
  unfold ixN
  rw[if_pos (by lia),if_pos (by lia)];simp
 unfold atI;rw[e];exact h
def sZ (b:Expr):Prop:=∀o i,subscripted b false o i=operate [o,i] (getItem o i)
def IxR (X:Cx)(r:R2):Prop :=
 ∀(value slice:Expr) (pins:List (Addr×Obj)) (s:xh) (σ:St) (H:Hp) (x y:V) (v u:xb) (Q:VK),Inv X pins σ H s->RelV x v->RelV y u->r x y H Q →
  subscripted slice false v u=operate [v,u] (getItem v u)->xM (xT X.prog X.w) X.A (subscriptTail value slice v u) (EP X pins σ Q) X.xe s
def MtR (X:Cx)(id:String)(r:V->List V->Hp->VK->Prop):Prop :=
 ∀(pins:List (Addr×Obj)) (s:xh) (σ:St) (H:Hp) (x:V) (xs:List V) (v:xb) (us:List xb) (Q:VK),Inv X pins σ H s->RelV x v->Vals xs us->r x xs H Q →
  xM (xT X.prog X.w) X.A (call (.builtin id) (v :: us)) (EP X pins σ Q) X.xe s
section
variable  {X:Cx}{a b:Expr}{ta tb:TE}{pos:Pos}
theorem au {r:R2}(hr:IxR X r)(ha:PE X a ta)(hb:PE X b tb)(hs:sZ b):PE X (.Subscript a b pos) (tOp r ta tb):=by
 intro pins s σ H Q I h
 exact Subscript_ (va ha hb I h λv u s2 x y H2 I2 rx ry q=>hr a b pins s2 σ H2 x y v u Q I2 rx ry q (hs _ _))
def wy (K:wY):R2:=λx y H Q=>∃p xs i v,x = .ref p/\y = .int i/\SqL K H p xs/\atI xs i=some v/\Q v H
def wz (K:wY):R2:=λx y H Q=>∃p xs i v,x = .ref p/\y = .int i/\SqT K H p xs/\atI xs i=some v/\Q v H
theorem bD:IxR X (wy X.K):=by
 intro value slice pins s σ H x y v u Q I rx ry h hs
 obtain ⟨p,xs,i,z,rfl,rfl,hq,he,q⟩:=h
 cases rx
 obtain ⟨t,rfl⟩:=ry
 obtain ⟨its,r,pl,hz⟩:=I.list hq
 obtain ⟨j,h1,h2,h3,h4,h5⟩:=oz he
 obtain ⟨w,ew,rw'⟩:=r.get h2
 have hl:=r.length
 have hn:=iR
 have fin:EP X pins σ Q w s:=⟨z,H,I,rw',q⟩
 by_cases h0:0<=i
 ·have hj:i.toNat=j:=by
   rw[D7 h0 h5] at h1
   exact x9 h1
  exact item_listR pl.isList h0 (by lia) (by rw[hj];simpa using ew) fin hs
 ·have hj:(i+(its.toArray.size:Int)).toNat=j:=by
   rw[DP (by lia) h4] at h1
   rw[xc, <- hl]
   exact x9 h1
  exact Cv (x:=w) pl.isList.typeIs slot_list_getitem.lookup
   (wpAny_getItem_list_neg (Q:=λr s'=>r=w/\EP X pins σ Q r s') pl.isList (by lia) (by rw[xc] <;> lia) (by lia) (by rw[hj];simpa using ew) ⟨rfl,fin⟩) hs
theorem av:IxR X (wz X.K):=by
 intro value slice pins s σ H x y v u Q I rx ry h hs
 obtain ⟨p,xs,i,z,rfl,rfl,hq,he,q⟩:=h
 cases rx
 obtain ⟨t,rfl⟩:=ry
 obtain ⟨its,r,pl,hz⟩:=I.tuple hq
 obtain ⟨j,h1,h2,h3,h4,h5⟩:=oz he
 obtain ⟨w,ew,rw'⟩:=r.get h2
 have hl:=r.length
 have hn:=iR
 have fin:EP X pins σ Q w s:=⟨z,H,I,rw',q⟩
 exact Cv (x:=w) pl.typeIs slot_tuple_getitem.lookup
  (getItem_tuple (j:=j) (Q:=λr s'=>r=w/\EP X pins σ Q r s') pl (by lia) (by lia) (by rw[xc, <- hl];exact h1) (by simpa using ew) ⟨rfl,fin⟩) hs
theorem m6 (its:List xb)(n j:Nat)(u:xb):yW (·.setIfInBounds j u) { cls :=.type "list",data :=.seq its.toArray n }={ cls :=.type "list",data :=.seq (its.set j u).toArray n }:=by
 simp[yW]
theorem Inv.lst {pins:List (Addr×Obj)}{σ:St}{H:Hp}{s:xh}{p:Addr}{xs:List V}(I:Inv X pins σ H s)(h:H p=some (.lst xs)) :
  ∃(its:List xb) (n:Nat),Vals xs its/\s.heap.get? p=some { cls :=.type "list",data :=.seq its.toArray n }/\xs.length<=xf:=by
 obtain ⟨z,its,n,r,e⟩:=I.hok p _ h
 exact ⟨its,n,r,e,z⟩
theorem Inv.vg {pins:List (Addr×Obj)}{σ:St}{H:Hp}{s:xh}{p:Addr}{xs ys:List V}{its its':List xb}{n n':Nat}{f:Obj->Obj}(I:Inv X pins σ H s)(h:H p=some (.lst xs))
  (ho:s.heap.get? p=some { cls :=.type "list",data :=.seq its.toArray n }) (hf:f { cls :=.type "list",data :=.seq its.toArray n }={ cls :=.type "list",data :=.seq its'.toArray n' }) (r:Vals ys its') (hz:ys.length<=xf) (t:Nat) :
  Inv X pins σ (upd H p (.lst ys)) { s with heap:=s.heap.update p f,toks:=t }:=by
 have e:(s.heap.update p f).get? p=some { cls :=.type "list",data :=.seq its'.toArray n' }:=by
  rw[yF f ho (by rw[hf] <;> rfl),hf]
 refine I.write (x:=p) (e:=p) (by rw[h];trivial) (.inl rfl) (λb u hb q=>(yc _ _ (zA hb)).trans q) ⟨_,e⟩ ?_
 exact ⟨hz,its',n',r,e⟩
def wA:V->V->V->Hp->(Hp->Prop)->Prop:=λo i v H Q=>∃p xs k j,o = .ref p/\i = .int k/\H p=some (.lst xs)/\ixN xs.length k=some j/\Q (upd H p (.lst (xs.set j v)))
theorem set_list:u6 X wA:=by
 intro pins s σ H o i v ov iv u Q I ro ri rv h
 obtain ⟨p,xs,k,j,rfl,rfl,hp,hj,q⟩:=h
 cases ro
 obtain ⟨t,rfl⟩:=ri
 obtain ⟨its,n,r,ho,hz⟩:=I.lst hp
 obtain ⟨h1,h2,h3,h4⟩:=oy hj
 have hl:=r.length
 have hn:=iR
 have I':Inv X pins σ (upd H p (.lst (xs.set j v))) { s with heap:=s.heap.update p (yW (·.setIfInBounds j u)) } :=
  I.vg hp ho (m6 its n j u) (r.set rv j) (by rw[Bq];exact hz) s.toks
 by_cases h0:0<=k
 ·have hk:k.toNat=j:=by
   rw[D7 h0 h4] at h1
   exact x9 h1
  exact PySem.W.ki_setAt ho h0 (by lia) (by rw[xc, <- hl];exact h4) (by rw[hk];exact ⟨_,I',q⟩)
 ·have hk:(k+(its.toArray.size:Int)).toNat=j:=by
   rw[DP (by lia) h3] at h1
   rw[xc, <- hl]
   exact x9 h1
  exact PySem.W.ki_setBack ho (by lia) (by rw[xc, <- hl];exact h3) (by lia) (by rw[hk];exact ⟨_,I',q⟩)
theorem kH (lo hi:Option Int)(n:Nat):(sliceBounds lo hi none n).1=((HT.sIx n 0 lo:Nat):Int)/\(sliceBounds lo hi none n).2.1=((HT.sIx n n hi:Nat):Int)/\(sliceBounds lo hi none n).2.2=1:=by
 refine ⟨?_,?_,rfl⟩
 ·cases lo with
  | none=>simp[sliceBounds,HT.sIx]
  | some i =>
   simp only[sliceBounds,HT.sIx,DR,show (1:Int)>0 by decide,if_true]
   by_cases h:i<0
   ·simp only[h,if_true] <;> lia
   ·simp only[h,if_false] <;> lia
 ·cases hi with
  | none=>simp[sliceBounds,HT.sIx]
  | some i =>
   simp only[sliceBounds,HT.sIx,DR,show (1:Int)>0 by decide,if_true]
   by_cases h:i<0
   ·simp only[h,if_true] <;> lia
   ·simp only[h,if_false] <;> lia
theorem jB (its:List xb)(lo hi:Option Int):slicePick its.toArray lo hi none=((its.drop (HT.sIx its.length 0 lo)).take (HT.sIx its.length its.length hi-HT.sIx its.length 0 lo)).toArray:=by
 obtain ⟨h1,h2,h3⟩:=kH lo hi its.toArray.size
 unfold slicePick
 rw[h1,h2,h3]
 simp only[sliceRange_one,pick_run,xc] <;> rfl
def rSlL (K:wY):V->Option Int->Option Int->Hp->VK->Prop:=λx lo hi H Q=>∃a xs,x = .ref a/\SqL K H a xs/\∀p,H p=none->Q (.ref p) (upd H p (.lst (bL xs lo hi)))
theorem cM:SlR X (rSlL X.K):=by
 intro pins s σ H x v vl vu lo hi sl Q I rx hs pl pu h
 obtain ⟨a,xs,rfl,hx,q⟩:=h
 cases rx
 obtain ⟨its,r,ht,hz⟩:=I.list hx
 have hlen:=r.length
 refine ⟨"list",_,slot_list_getitem.lookup,ht.isList.typeIs,?_⟩
 refine wpAny_getItem_list_slice ht.isList hs pl pu .none (by simp) ?_ (by rw[xc] <;> lia)
 rw[jB, <- hlen]
 refine ⟨.ref s.heap.objs.size,_,I.laid (t':=s.toks) (o :=.lst (bL xs lo hi)) (λb ob q=>wX _ q) (xg _) ?_,rfl,q _ (I.hok.fresh (xg _))⟩
 exact ⟨ye (ia xs lo hi) hz,_,0,(r.drop (HT.sIx xs.length 0 lo)).take (HT.sIx xs.length xs.length hi-HT.sIx xs.length 0 lo),xr _ rfl⟩
def gm:V->Bool
 | .non=>true
 | .bl _=>true
 | .int _=>true
 | .str _=>true
 | _=>false
def eqV:V->V->Bool
 | .non,.non=>true
 | .bl a,.bl b=>a == b
 | .bl a,.int b=>(if a then 1 else 0) == b
 | .int a,.bl b=>a == (if b then 1 else 0)
 | .int a,.int b=>a == b
 | .str a,.str b=>a == b
 | _,_=>false
theorem vh {A:yh}{s:xh}{y x:V}{u v:xb}(ry:RelV y u)(rx:RelV x v)(fy:gm y=true)(fx:gm x=true):zZ A s u v (eqV y x):=by
 cases y with
 | non =>
  cases ry
  cases x with
  | non=>cases rx;exact Am _
  | bl b=>cases rx;exact SeqAt.EqAt.none_bool b
  | int b=>obtain ⟨t,rfl⟩:=rx;exact SeqAt.EqAt.none_int b t
  | str b=>obtain ⟨t,rfl⟩:=rx;exact SeqAt.EqAt.none_str b t
  | _=>exact absurd (show false=true from fx) xw
 | bl a =>
  cases ry
  cases x with
  | non=>cases rx;exact SeqAt.EqAt.bool_none a
  | bl b=>cases rx;exact SeqAt.EqAt.bool_bool a b
  | int b=>obtain ⟨t,rfl⟩:=rx;exact SeqAt.EqAt.bool_int a b t
  | str b=>obtain ⟨t,rfl⟩:=rx;exact SeqAt.EqAt.bool_str a b t
  | _=>exact absurd (show false=true from fx) xw
 | int a =>
  obtain ⟨t',rfl⟩:=ry
  cases x with
  | non=>cases rx;exact SeqAt.EqAt.int_none a t'
  | bl b=>cases rx;exact SeqAt.EqAt.int_bool a t' b
  | int b=>obtain ⟨t,rfl⟩:=rx;exact Ah a t' b t
  | str b=>obtain ⟨t,rfl⟩:=rx;exact De a t' b t
  | _=>exact absurd (show false=true from fx) xw
 | str a =>
  obtain ⟨t',rfl⟩:=ry
  cases x with
  | non=>cases rx;exact SeqAt.EqAt.str_none a t'
  | bl b=>cases rx;exact SeqAt.EqAt.str_bool a t' b
  | int b=>obtain ⟨t,rfl⟩:=rx;exact Df a t' b t
  | str b=>obtain ⟨t,rfl⟩:=rx;exact Di a t' b t
  | _=>exact absurd (show false=true from fx) xw
 | _=>exact absurd (show false=true from fy) xw
def eqU (x:V)(u:xb):Bool:=match u with
 | .none=>eqV .non x
 | .bool b=>eqV (.bl b) x
 | .int i _=>eqV (.int i) x
 | .str z _=>eqV (.str z) x
 | _=>false
theorem ra {x y:V}{u:xb}(r:RelV y u)(f:gm y=true):eqU x u=eqV y x:=by
 cases y with
 | non=>cases r;rfl
 | bl b=>cases r;rfl
 | int i=>obtain ⟨t,rfl⟩:=r;rfl
 | str z=>obtain ⟨t,rfl⟩:=r;rfl
 | _=>exact absurd (show false=true from f) xw
theorem gn {x:V}:∀{xs:List V} {us:List xb},Vals xs us->xs.all gm=true->us.any (eqU x)=xs.any λy=>eqV y x
 | _,_,.nil,_=>rfl
 | y :: xs,u :: us,.cons r t,f=>by
  rw[Et,yz] at f
  rw[Ar,Ar,ra r f.1,gn t f.2]
theorem eR {A:yh}{s:xh}{x:V}{v:xb}(rx:RelV x v)(fx:gm x=true):∀{xs:List V} {us:List xb},Vals xs us->xs.all gm=true->∀u∈us,zZ A s u v (eqU x u)
 | _,_,.nil,_=>λu hu=>by cases hu
 | y :: xs,u :: us,.cons r t,f=>λu' hu=>by
  rw[Et,yz] at f
  rcases xK.mp hu with rfl | hu
  ·rw[ra r f.1];exact vh r rx f.1 fx
  ·exact eR rx fx t f.2 u' hu
def inV (x:V)(xs:List V):Bool:=xs.any λy=>eqV y x
def rIn (K:wY)(neg:Bool):R2:=λx y H Q=>∃p xs,y = .ref p/\(SqL K H p xs\/SqT K H p xs)/\gm x=true/\xs.all gm=true/\Q (.bl (if neg then !inV x xs else inV x xs)) H
theorem gM:OpR X (yI .In) (rIn X.K false):=by
 intro pins s σ H x y v u Q I rx ry h
 obtain ⟨p,xs,rfl,hq,fx,fs,q⟩:=h
 cases ry
 rcases hq with hq | hq
 ·obtain ⟨its,r,pl,hz⟩:=I.list hq
  refine SeqAt.in_listAt (eqU x) pl.isList (λw hw=>eR rx fx r fs w (by simpa using hw)) ⟨.bl _,H,I,rfl,?_⟩
  rw[show its.toArray.any (eqU x)=its.any (eqU x) by simp,gn r fs]
  exact q
 ·obtain ⟨its,r,pl,hz⟩:=I.tuple hq
  refine DS (eqU x) pl (λw hw=>eR rx fx r fs w (by simpa using hw)) ⟨.bl _,H,I,rfl,?_⟩
  rw[show its.toArray.any (eqU x)=its.any (eqU x) by simp,gn r fs]
  exact q
theorem bV:OpR X (yI .NotIn) (rIn X.K true):=by
 intro pins s σ H x y v u Q I rx ry h
 obtain ⟨p,xs,rfl,hq,fx,fs,q⟩:=h
 cases ry
 rcases hq with hq | hq
 ·obtain ⟨its,r,pl,hz⟩:=I.list hq
  refine SeqAt.notIn_listAt (eqU x) pl.isList (λw hw=>eR rx fx r fs w (by simpa using hw)) ⟨.bl _,H,I,rfl,?_⟩
  rw[show its.toArray.any (eqU x)=its.any (eqU x) by simp,gn r fs]
  exact q
 ·obtain ⟨its,r,pl,hz⟩:=I.tuple hq
  refine SeqAt.notIn_tupleAt (eqU x) pl (λw hw=>eR rx fx r fs w (by simpa using hw)) ⟨.bl _,H,I,rfl,?_⟩
  rw[show its.toArray.any (eqU x)=its.any (eqU x) by simp,gn r fs]
  exact q
theorem aX:bK X (.builtin "len") (λxs H Q=>∃p ys,xs=[.ref p]/\(SqL X.K H p ys\/SqT X.K H p ys)/\Q (.int ys.length) H):=by
 intro pins s σ H xs us Q I r h
 obtain ⟨p,ys,rfl,hq,q⟩:=h
 obtain ⟨u,rfl,rx⟩:=vals1 r
 cases rx
 have hn:=iR
 rcases hq with hq | hq
 ·obtain ⟨its,r',pl,hz⟩:=I.list hq
  have hlen:=r'.length
  exact Calls.call_len_list pl.isList (by simp only[xc] <;> lia) ⟨.int ys.length,H,I.tok _,⟨s.toks+1,by rw[xc,hlen]⟩,q⟩
 ·obtain ⟨its,r',pl,hz⟩:=I.tuple hq
  have hlen:=r'.length
  exact len_tuple pl (by simp only[xc] <;> lia) ⟨.int ys.length,H,I.tok _,⟨s.toks+1,by rw[xc,hlen]⟩,q⟩
theorem cN:bK X (.type "list") (λxs H Q=>∃p ys,xs=[.ref p]/\(SqL X.K H p ys\/SqT X.K H p ys)/\∀l,H l=none->Q (.ref l) (upd H l (.lst ys))):=by
 intro pins s σ H xs us Q I r h
 obtain ⟨p,ys,rfl,hq,q⟩:=h
 obtain ⟨u,rfl,rx⟩:=vals1 r
 cases rx
 have fin:∀(its:List xb),Vals ys its->ys.length<=xf->∀(h':Heap) (c':Nat),(∀b o',s.heap.get? b=some o'->h'.get? b=some o') →
   h'.get? s.heap.objs.size=some { cls :=.type "list",dict:=none,data :=.seq its.toArray c',slots := #[] }->EP X pins σ Q (.ref s.heap.objs.size) { s with heap:=h' }:=λits r' hz h' c' kp e =>
  ⟨.ref s.heap.objs.size,_,I.laid (t':=s.toks) kp (xg _) (show bo X.prog X.w _ h' _ (.lst ys) from ⟨hz,its,c',r',e⟩),rfl,q _ (I.hok.fresh (xg _))⟩
 rcases hq with hq | hq
 ·obtain ⟨its,r',pl,hz⟩:=I.list hq
  have hlen:=r'.length
  obtain ⟨o,ho,hc,n,hd⟩:=pl.isList
  exact call_list_seq p (.inl rfl) ho hc hd (λh' c' kp e=>fin its r' hz h' c' kp e) (by simp only[xc] <;> lia)
 ·obtain ⟨its,r',pl,hz⟩:=I.tuple hq
  have hlen:=r'.length
  obtain ⟨o,ho,hc,n,hd⟩:=pl
  exact call_list_seq p (.inr rfl) ho hc hd (λh' c' kp e=>fin its r' hz h' c' kp e) (by simp only[xc] <;> lia)
theorem bZ:bK X (.type "tuple") (λxs H Q=>∃p ys,xs=[.ref p]/\((SqL X.K H p ys/\∀l,H l=none->Q (.ref l) (upd H l (.tup ys)))\/(SqT X.K H p ys/\Q (.ref p) H))):=by
 intro pins s σ H xs us Q I r h
 obtain ⟨p,ys,rfl,h⟩:=h
 obtain ⟨u,rfl,rx⟩:=vals1 r
 cases rx
 rcases h with ⟨hq,q⟩ | ⟨hq,q⟩
 ·obtain ⟨its,r',pl,hz⟩:=I.list hq
  have hlen:=r'.length
  refine call_tuple_list pl.isList (λh' kp =>?_) (by simp only[xc] <;> lia)
  have I1:Inv X pins σ H { s with heap:=h' }:=I.kept (t':=s.toks) kp
  have I2:Inv X pins σ (upd H h'.objs.size (.tup ys)) { s with heap:=h'.push { cls :=.type "tuple",data :=.seq its.toArray } } :=
   I1.laid (t':=s.toks) (λb o e=>wX _ e) (xg _) (show bo X.prog X.w _ _ _ (.tup ys) from ⟨hz,its,r',cV.new _ _⟩)
  exact ⟨.ref h'.objs.size,_,I2,rfl,q _ (I1.hok.fresh (xg _))⟩
 ·obtain ⟨its,r',pl,hz⟩:=I.tuple hq
  exact call_tuple_same pl ⟨.ref p,H,I,rfl,q⟩
def tyV (K:wY)(T:String)(x:V)(H:Hp):Prop:=match x with
 | .str _=>T = "str"
 | .int _=>T = "int"
 | .ref p=>(T = "list" /\ ∃xs,SqL K H p xs)\/(T = "tuple" /\ ∃o,K.lookup p=some o/\o.cls = .type "tuple" /\ o.dict=none) ∨
   (T = "dict" /\ ((∃kvs,H p=some (.dK kvs))\/∃kvs,H p=some (.dT kvs)))\/(T = "set" /\ ∃S n,H p=some (.set S n))
 | _=>False
theorem vi {pins:List (Addr×Obj)}{σ:St}{H:Hp}{s:xh}{T:String}{x:V}{v:xb}(I:Inv X pins σ H s)(r:RelV x v)(ty:tyV X.K T x H) :
  s.TypeIs v T/\∀a,v = .ref a->∃ob,s.heap.get? a=some ob/\ob.dict=none:=by
 cases x with
 | str z =>
  obtain ⟨t,rfl⟩:=r
  cases (show T = "str" from ty)
  exact ⟨typeIs_str s z t,λ_ e=>nomatch e⟩
 | int i =>
  obtain ⟨t,rfl⟩:=r
  cases (show T = "int" from ty)
  exact ⟨En s i t,λ_ e=>nomatch e⟩
 | ref p =>
  cases r
  rcases ty with ⟨rfl,xs,hq⟩ | ⟨rfl,o,hk,hc,hd⟩ | ⟨rfl,hk⟩ | ⟨rfl,S,n,hk⟩
  ·obtain ⟨its,_,pl,_⟩:=I.list hq
   refine ⟨pl.isList.typeIs,λa e =>?_⟩
   cases e
   obtain ⟨o,n,e,c,hd,_⟩:=pl
   exact ⟨o,e,hd⟩
  ·refine ⟨⟨o,I.kIn p o hk,hc⟩,λa e =>?_⟩
   cases e
   exact ⟨o,I.kIn _ o hk,hd⟩
  ·have z:∃o,s.heap.get? p=some o/\o.ExactDict:=by
    rcases hk with ⟨kvs,hk⟩ | ⟨kvs,hk⟩
    ·obtain ⟨_,_,_,_,o,_,_,e,ex,_⟩:=I.hok p _ hk
     exact ⟨o,e,ex⟩
    ·obtain ⟨_,_,_,_,o,_,_,e,ex,_⟩:=I.hok p _ hk
     exact ⟨o,e,ex⟩
   obtain ⟨o,e,ex⟩:=z
   refine ⟨⟨o,e,ex.1⟩,λa e2 =>?_⟩
   cases e2
   exact ⟨o,e,ex.2.1⟩
  ·obtain ⟨o,_,_,_,e,ex,_⟩:=I.hok p _ hk
   refine ⟨⟨o,e,ex.1⟩,λa e2 =>?_⟩
   cases e2
   exact ⟨o,e,ex.2.1⟩
 | _=>exact False.elim ty
def tBM (K:wY)(T:String)(r:V->List V->Hp->VK->Prop)(to:TE)(t:TA):TE:=λσ H Q=>to σ H λx H1=>tyV K T x H1/\t σ H1 λxs H2=>r x xs H2 Q
variable  {o e:Expr}{es:List Expr}{to:TE}{t:TA}{name:Str}{apos cpos:Pos}{T id:String}{r:V->List V->Hp->VK->Prop}
theorem rb (pa:PlainAttrs T)(slot:Slot T name id)(hty:typeOf (.builtin id)=pure (.type "method_descriptor"))(hm:MtR X id r)(ho:PE X o to)(ha:PA X (e :: es) t)
  (hbase:attributeBase o name X.env (eval o X.env)=eval o X.env:=by rfl)
  (hfew:((C4 cpos (yO (e :: es) X.env)).all (λx => !x.1) && (backToKw cpos (keywordEach [] X.env)).all (λx=>x.1.isSome)
   && decide ((e :: es).length+([]:List Keyword).length+(if ([]:List Keyword).isEmpty then 0 else 1)<30))=true:=by rfl)
  (hline:(apos.endLine == cpos.line)=true:=by rfl) (hs:yO (e :: es) X.env=(false,eval e X.env) :: yO es X.env:=by rfl) (hplain:(C4 cpos (yO es X.env)).any (·.1)=false:=by rfl) :
  PE X (.Call (.Attribute o name apos) (e :: es) [] cpos) (tBM X.K T r to t):=by
 intro pins s σ H Q I h
 refine wpAny_Call_method_late hbase hfew hline rfl (thn (ho pins s σ H _ I h) λv s1 ⟨x,H1,I1,r1,ty,q1⟩ =>?_)
 obtain ⟨h1,h2⟩:=vi I1 r1 ty
 refine ⟨T,id,pa,slot,hty,h1,h2,?_⟩
 have hA:=ha cpos pins s1 σ H1 _ I1 q1
 rw[hs] at hA ⊢
 refine Calls.callWith_builtin (by show (false || (C4 cpos (yO es X.env)).any (·.1))=false;rw[hplain] <;> rfl) (Calls.evalArgs_plain ?_)
 exact thn hA λus s2 ⟨vs,H2,I2,r2,q2⟩=>hm pins s2 σ H2 x vs v us Q I2 r1 r2 q2
end
open PySem PySem.Spec PyProof.Rows
def MtM (X:Cx)(id:String)(r:V->List V->Hp->VK->Prop):Prop :=
 ∀(pins:List (Addr×Obj)) (s:xh) (σ:St) (H:Hp) (x:V) (xs:List V) (v:xb) (us:List xb) (Q:VK),Inv X pins σ H s->RelV x v->Vals xs us->r x xs H Q →
  xM (xT X.prog X.w) X.A (call (.builtin id) (v :: us)) (EP X pins σ Q) X.xe s
theorem Vals.one:∀{x:V} {us:List xb},Vals [x] us->∃u,us=[u]/\RelV x u
 | _,_,.cons r .nil=>⟨_,rfl,r⟩
theorem Vals.reverse {xs:List V}{us:List xb}(h:Vals xs us):Vals xs.reverse us.reverse:=by
 induction h with
 | nil=>exact .nil
 | cons r t ih=>rw[DC,DC];exact Vals.append ih (.cons r .nil)
theorem Vals.rep {xs:List V}{us:List xb}(h:Vals xs us):∀k:Nat,Vals (yg k xs).flatten (yg k us).flatten
 | 0 =>.nil
 | k+1=>by
  rw[yS,yS,y7,y7]
  exact Vals.append h (Vals.rep h k)
theorem foldl_rep (its:List xb):∀(k:Nat) (acc:List xb),
  List.foldl (λx1 x2=>x1++x2) acc.toArray (yg k its.toArray)=(acc++(yg k its).flatten).toArray
 | 0,acc=>by simp
 | k+1,acc=>by
  have e:acc.toArray++its.toArray=(acc++its).toArray:=by simp
  have e2:(acc++its)++(yg k its).flatten=acc++(yg (k+1) its).flatten:=by
   rw[yS,y7,xU]
  rw[<- e2, <- foldl_rep its k (acc++its), <- e,yS,Cz]
section
variable  {X:Cx}{pins:List (Addr×Obj)}{σ:St}{H:Hp}{s:xh}{l b:Addr}{xs ys zs:List V}
theorem Inv.lset {its its':List xb}{n:Nat}{f:Array xb->Array xb}{t':Nat}(I:Inv X pins σ H s)(hH:H l=some (.lst xs))
  (e:s.heap.get? l=some { cls :=.type "list",data :=.seq its.toArray n }) (hf:f its.toArray=its'.toArray) (hv:Vals ys its') (hz:ys.length<=xf) :
  Inv X pins σ (upd H l (.lst ys)) { s with heap:=s.heap.update l (yW f),toks:=t' }:=by
 have q:=PySem.IsL.update e f
 rw[hf] at q
 refine I.write (x:=l) (e:=l) (by rw[hH];exact trivial) (.inl rfl) (λb' u hb hu=>(yc s.heap (yW f) (zA hb)).trans hu) ⟨_,q⟩ ?_
 exact ⟨hz,its',_,hv,q⟩
theorem Inv.wB {its:List xb}{t':Nat}(I:Inv X pins σ H s)(hv:Vals ys its)(hz:ys.length<=xf) :
  Inv X pins σ (upd H s.heap.objs.size (.lst ys)) { s with heap:=s.heap.push { cls :=.type "list",data :=.seq its.toArray },toks:=t' } :=
 I.laid (λ_ _ q=>wX _ q) (xg _) ⟨hz,its,0,hv,xr _ rfl⟩
theorem Inv.fresh (I:Inv X pins σ H s):H s.heap.objs.size=none:=I.hok.fresh (xg _)
theorem Inv.wC (I:Inv X pins σ H s)(hH:H l=some (.lst xs)):xs.length<=xf/\∃(its:List xb) (n:Nat),Vals xs its/\xs.length=its.length/\s.heap.get? l=some { cls :=.type "list",data :=.seq its.toArray n }:=by
 obtain ⟨z,its,n,r,e⟩:=I.hok l _ hH
 exact ⟨z,its,n,r,r.length,e⟩
theorem rd {n:Nat}(h:n<=xf):Builtin.List.listTooLong n=false:=by
 unfold Builtin.List.listTooLong
 exact decide_eq_false (by lia)
end
section
variable  {X:Cx}
def tj:V->List V->Hp->VK->Prop:=λx vs H Q=>∃l xs y,x = .ref l/\vs=[y]/\H l=some (.lst xs)/\xs.length<xf/\Q .non (upd H l (.lst (xs++[y])))
theorem gN:MtM X "list.append" tj:=by
 intro pins s σ H x vs v us Q I rx rv h
 obtain ⟨l,xs,y,rfl,rfl,hH,hz,q⟩:=h
 cases rx
 obtain ⟨u,rfl,ru⟩:=rv.one
 obtain ⟨z,its,n,r,hl,e⟩:=I.wC hH
 refine Eo F.slot_list_append ⟨_,e,rfl⟩ F.entry_list_append (F.args_list_append_2 _ _) (PySem.list_append l its.toArray n u (by rw[xc];lia)) ⟨e,?_⟩
 refine ⟨.non,_,I.lset (its':=its++[u]) hH e (by simp) (r.append (.cons ru .nil)) ?_,rfl,q⟩
 rw[w9,yv]
 lia
def rRep:R2:=λx y H Q=>∃l k xs,x = .ref l/\y = .int k/\H l=some (.lst xs) /\ -(2 ^ 63)<=k/\k<2 ^ 63/\xs.length*k.toNat<=xf ∧
 ∀p,H p=none->Q (.ref p) (upd H p (.lst (yg k.toNat xs).flatten))
theorem len_rep {α:Type}(xs:List α)(k:Nat):(yg k xs).flatten.length=k*xs.length:=by
 induction k with
 | zero=>simp
 | succ k ih=>rw[yS,y7,w9,ih,Nat.succ_mul,Nat.add_comm]
theorem rf:OpR X (binaryOp .Mult) rRep:=by
 intro pins s σ H x y v u Q I rx ry h
 obtain ⟨l,k,xs,rfl,rfl,hH,h1,h2,hz,q⟩:=h
 cases rx
 obtain ⟨t,rfl⟩:=ry
 obtain ⟨z,its,n,r,hl,e⟩:=I.wC hH
 have hlen:its.toArray.size*k.toNat<=xf:=by rw[xc, <- hl];exact hz
 have hcap:¬ its.toArray.size*k.toNat>(2 ^ 63-1)/8:=by
  have:(xf:Nat)<=(2 ^ 63-1)/8:=by decide
  lia
 have hfit:¬ (!Builtin.List.listFitsIndex k)=true:=by
  rw[fitsIndex_both h1 h2]
  exact xw
 have hlong:¬ Builtin.List.listTooLong (its.toArray.size*k.toNat)=true:=by
  rw[rd hlen]
  exact xw
 have hnew:List.foldl (λx1 x2=>x1++x2) #[] (yg (if its.toArray.isEmpty=true then 0 else k.toNat) its.toArray)=(yg k.toNat its).flatten.toArray:=by
  have f0:∀m:Nat,List.foldl (λx1 x2=>x1++x2) #[] (yg m its.toArray)=(yg m its).flatten.toArray:=λm=>by
   have:=foldl_rep its m []
   rw[AU] at this
   exact this
  rw[f0]
  cases its with
  | nil=>simp
  | cons a r'=>rw[if_neg (by simp)]
 refine wpAny_binaryOp_repeat_ref (T := "list") (U := "int") (by decide) ⟨_,e,rfl⟩ (λs'=>En s' k t) noFill_list_mul F.fills_int_mul D1 repeat_list F.slot_int_index.lookup
  (Eo D1 (En s k t) F.entry_int_rmul (F.args_int_rmul_2 _ _) (int___rmul___int_list k t l its.toArray n)
   ⟨e,rfl,⟨_,e,rfl⟩,Eo F.slot_list_mul ⟨_,e,rfl⟩ F.entry_list_mul (F.args_list_mul_2 _ _) (AutoListH.list___mul___list_int_3 l its.toArray n k t hfit hcap hlong) ⟨e,?_⟩⟩)
 rw[hnew]
 exact ⟨.ref _,_,I.wB (t':=s.toks) (r.rep k.toNat) (by rw[len_rep,Nat.mul_comm];exact hz),rfl,q _ I.fresh⟩
end
section
variable  {prog:xA}{w:xQ}{A:yh}{E:xb->xh->Prop}{s:xh}
end
section
variable  {X:Cx}
end
end L2
namespace Att
open PySem PySem.W PySem.Calls PyProof.Rows
theorem iz {P:Params}{h:Heap}:∀(ns:List Int) (vs:List xb),WellAll P h vs (ns.map WData.int)->A4 vs ns:=by
 intro ns
 induction ns with
 | nil =>
  intro vs w
  rw[DL] at w
  cases w
  exact .nil
 | cons n ns ih =>
  intro vs w
  rw[xJ] at w
  cases w with
  | cons a b =>
   cases a
   exact .cons _ _ (ih _ b)
theorem pS {l:OpenLaw}{n:Nat}(hn:l.most=some n){P:Params}{h:Heap}{args:List WData}{vals:List xb}
  (hpre:l.row.toRowW.claim.pre args=true) (hwl:WellAll P h vals args) :
  ∃a vs ns,vals=[xB a]/\args=[WData.list (ns.map WData.int)]/\h.get? a=some { cls :=.type "list",data :=.seq vs.toArray }/\A4 vs ns/\ns.length<=n:=by
 have hsh:WShape.hasAll [] args [.list .int]=true:=(pre_splitW hpre).1
 have hc:l.pre.holds [] { args:=args }=true:=(pre_splitW hpre).2
 obtain ⟨d,r,rfl,h1,h2⟩:=hasAllW_cons hsh
 obtain rfl:=hasAllW_nil h2
 obtain ⟨xs,rfl,h3⟩:=hasW_list h1
 obtain ⟨ns,rfl⟩:=items_int h3
 have hlen:ns.length<=n:=by
  unfold OpenLaw.pre at hc
  have h4:(WTm.not (.lt (.lit (.int (n:Int))) (.len (.arg 0)))).holds [] { args:=[.list (ns.map .int)] }=true:=by
   have h4:=(holds_andW hc).1
   rw[hn] at h4
   exact h4
  have h5:=condW_of h4 (w_not (w_lt w_lit (w_len_list (w_arg rfl))))
  rw[wW] at h5
  refine DT λq =>?_
  have q':(n:Int)<((ns.length:Nat):Int):=by omega
  first
   | (rw[decide_eq_true q'] at h5;exact absurd h5 (by decide))
   | (simp at h5;omega)
 cases hwl with
 | cons w1 w2 =>
  cases w2
  cases w1 with
  | list ho hall=>exact ⟨_,_,ns,rfl,rfl,ho,iz ns _ hall,hlen⟩
theorem pT (l:OpenLaw)(args:List WData):l.row.toRowW.claim.post args (.bool true) args=true :=
 postW_of (r:=l.row.toRowW) (X:=(true == true))
  (show WShape.has [] (.bool true) .bool=true by first | rfl | decide | simp[WShape.has,WShape.arms,WShape.armsAll])
  (show (WTm.eq .res (.lit (.bool true))).value [] { args:=args,res:=some (.bool true),after:=args }=some (.bool (true == true)) from w_eq_bool (w_res rfl) w_lit) rfl
theorem lQ {l:OpenLaw}{n:Nat}{q:xA}{loose:List Str}{XP:(Str->Option xb)->Heap->Prop}{YP:xQ->Heap->Prop}{d:DefRec}
  (hn:l.most=some n) (hdf:d.params.defaults=[])
  (call:∀(w:xQ) (s₀ s₁:xh) (mg mb:Str->Option xb) (fa:Addr) (o:Obj) (pm cd doc:xb) (a:Addr) (vs:List xb) (ns:List Int),
   Ground q loose [] XP w s₀ mg mb s₁.heap->YP w s₁.heap →
   s₁.heap.get? fa=some o->o.data = .func (docDef d.name d.params d.body d.scope pm cd doc)->s₁.heap.CodeRec cd d.name->mg d.name=some (.ref fa) →
   s₁.heap.get? a=some { cls :=.type "list",data :=.seq vs.toArray }->A4 vs ns->ns.length<=n->s₁.gens = #[] →
   Bl (xT l.prog w) callerA (.call (.ref fa) ⟨[.ref a],[]⟩) (λr s'=>r = .ok (.ret (.bool true))/\OldK s₁.heap s'.heap/\s'.os=s₁.os/\AllBare s'.gens) s₁) :
  WalkO q loose XP YP l.row.toRowW d [] (λf vs=>PySem.call f vs):=by
 intro w s₀ s₁ mg mb G Y fa o pm cd doc dV kV ho hd hcd hD hmg hg args vals as hpre hlay hrd hwl hlo
 obtain rfl:dV = .none:=Dflts.none hD hdf
 obtain rfl:kV = .none:=Dflts.noKw hD
 obtain ⟨a,vs,ns,rfl,rfl,hobj,hints,hlen⟩:=pS hn hpre hwl
 refine enter_call (AQ (call w s₀ s₁ mg mb fa o pm cd doc a vs ns G Y ho (fd_plain hd) hcd hmg hobj hints hlen hg) λr s' hq =>?_)
 obtain ⟨rfl,h2,h3,h4⟩:=hq
 exact ⟨.inl ⟨.bool true,.bool true,[],rfl,λ_=>rfl,.bool true,pT l _,λ_=>⟨List.Pairwise.nil,λ_ hm=>(nomatch hm)⟩⟩,h2,h3,h4⟩
section
variable  {prog:xA}{w:xQ}{A:yh}{E:xb->xh->Prop}{s:xh}{K:Frag}
def ledger (h:Heap)(L d:Addr):List (Addr×Obj):=(yj h.objs.size).filterMap λa=>if a=L\/a=d then none else (h.get? a).map λo=>(a,o)
end
end Att
namespace L2
open PySem PySem.Spec PyProof.Rows
theorem gO:∀{vs:List xb} {ns:List Int},A4 vs ns->Vals (ns.map V.int) vs
 | _,_,.nil =>.nil
 | _,_,.cons n t h =>.cons ⟨t,rfl⟩ (gO h)
def vj (H:Hp):Prop:=∀b,H b=none\/∃o xs,H b=some (.frz o (.lst xs))
theorem rg {P:xA}{w:xQ}{K:wY}{mg mb:Str->Option xb}{CX:CXT}{k:Nat}{fa a:Addr}{fd:yd}{x:Str}{sp:Sp}{s₁:xh}{vs:List xb}{ns:List Int}
  (KX:K.In s₁.heap) (hns:s₁.heap.Ns xZ mg) (hb:s₁.heap.Ns builtinsNs mb) (hbb:∀x:Str,x ≠ "__name__" -> mb x=yo x) (hlim:s₁.heap.NoLimit) (hg:s₁.gens = #[])
  (ha:s₁.heap.get? a=some { cls :=.type "list",data :=.seq vs.toArray }) (hi:A4 vs ns) (hl:ns.length<=xf) (hr:cq k callerA)
  (F:∀base:Heap,K.In base->base.Ns xZ mg->bG P w K mg base CX k fa fd [x] sp) (hbind:∀(s:xh) (u:xb),BindsTo s fd ⟨[u],[]⟩ [(x,u)])
  (hsp:∀H:Hp,vj H->SqL K H a (ns.map V.int)->sp [.ref a] H (λv _=>v = .bl true) λ_ _ _=>False)
  (hCX:∀H e s',CX [] H s₁ (λ_ _ _=>False) e s'->False) :
  Bl (xT P w) callerA (.call (.ref fa) ⟨[.ref a],[]⟩) (λr s'=>r = .ok (.ret (.bool true))/\OldK s₁.heap s'.heap/\s'.os=s₁.os/\AllBare s'.gens) s₁:=by
 have rv:=gO hi
 have lenV:=hi.length
 have core:∀H:Hp,vj H->SqL K H a (ns.map V.int)->HOk P w H s₁.heap->(∀b,H b≠none->b=a)->(H a≠none->K.lookup a=none) →
   Bl (xT P w) callerA (.call (.ref fa) ⟨[.ref a],[]⟩) (λr s'=>r = .ok (.ret (.bool true))/\OldK s₁.heap s'.heap/\s'.os=s₁.os/\AllBare s'.gens) s₁:=by
  intro H hO hS hok hA hK
  have base_of:∀{b:Addr} {o:Obj},s₁.heap.get? b=some o->H b=none->(kC s₁.heap H).get? b=some o:=λe n=>qP e n
  have noA:∀{b:Addr} {o:Obj} {es:Array DictEntry} {ep:Nat},s₁.heap.get? b=some o->o.data = .dict es ep->H b=none:=λ{b o es ep} e d=>by
   cases q:H b with
   | none=>rfl
   | some u =>
    have e':b=a:=hA b (by rw[q];simp)
    subst e'
    rw[ha] at e;cases e
    have d':Data.seq vs.toArray _=Data.dict es ep:=d
    cases d'
  have nsK:∀{b:Addr} {m:Str->Option xb},s₁.heap.Ns b m->(kC s₁.heap H).Ns b m:=λ{b m} ⟨o,es,ep,e,d,r⟩=>⟨o,es,ep,base_of e (noA e d),d,r⟩
  have hKb:K.In (kC s₁.heap H):=λb o e=>base_of (KX b o e) (by
   cases q:H b with
   | none=>rfl
   | some u =>
    have e':b=a:=hA b (by rw[q];simp)
    subst e'
    rw[hK (by rw[q];simp)] at e;cases e)
  have hM:Mod K mg (kC s₁.heap H):=⟨hKb,nsK hns,⟨mb,nsK hb,hbb⟩,let ⟨mc,h1,h2⟩:=hlim;⟨mc,nsK h1,h2⟩⟩
  have e0:sS P w K mg (kC s₁.heap H) callerA [] s₁ H:=⟨rfl,hM,λb o e=>sL e,Nat.le_of_eq (pK _ _),trivial,λb hb=>absurd (show b∈([]:List Addr) from hb) (by simp),hok,.of_eq hg⟩
  refine AQ ((F _ hKb (nsK hns)).run callerA [] s₁ H ⟨[.ref a],[]⟩ [.ref a] [.ref a] _ _ hr e0 (hbind s₁ (.ref a)) (.cons rfl .nil) (hsp H hO hS)) λr s' h =>?_
  cases r with
  | error e=>exact (hCX H e s' h).elim
  | ok fl =>
   cases fl with
   | next=>exact False.elim h
   | brk=>exact False.elim h
   | cont=>exact False.elim h
   | ret u =>
    obtain ⟨v,H',os,bare,un,hok',r',q⟩:=h
    have q':v = .bl true:=q
    subst q'
    obtain rfl:u=Value.bool true:=r'
    refine ⟨rfl,OldK.of_keep λb o e =>?_,os,bare⟩
    cases q:H b with
    | none=>exact un.keep b o e q (by intro z;exact absurd (show b∈([]:List Addr) from z) (by simp)) (by simp)
    | some u =>
     rcases hO b with z | ⟨ob,xs,z⟩
     ·rw[q] at z;cases z
     ·have z2:=un.frzs b ob _ z
      obtain ⟨e1,_⟩:=hok b _ z
      obtain ⟨e2,_⟩:=hok' b _ z2
      rw[e] at e1;cases e1
      exact e2
 cases hk:K.lookup a with
 | some o =>
  have e:=KX a o hk
  rw[ha] at e
  cases e
  refine core (λ_=>none) (λ_ =>.inl rfl) (.inr ⟨_,vs.toArray,_,hk,rfl,rfl,rfl,by rw[xc,lenV];exact hl,by simpa using rv⟩) (λb u z=>by have z':(none:Option HO)=some u:=z;cases z') (λb z=>absurd rfl z) λz=>absurd rfl z
 | none =>
  refine core (λb=>if b=a then some (.frz { cls :=.type "list",data :=.seq vs.toArray } (.lst (ns.map V.int))) else none) (λb =>?_) (.inl (.inr ⟨{ cls :=.type "list",data :=.seq vs.toArray },if_pos rfl⟩)) (λb u z =>?_) (λb z =>?_) λ_=>hk
  ·by_cases hb:b=a
   ·exact .inr ⟨_,_,if_pos hb⟩
   ·exact .inl (if_neg hb)
  ·by_cases hb:b=a
   ·have z':=(if_pos hb).symm.trans z
    cases z'
    subst hb
    exact ⟨ha,by rw[wW];exact hl,vs,_,rv,ha⟩
   ·have z':=(if_neg hb).symm.trans z
    cases z'
  ·by_cases hb:b=a
   ·exact hb
   ·exact absurd (if_neg hb) z
open PySem PySem.Spec PyProof.Rows
theorem tq {l:PySem.W.OpenLaw}{n k:Nat}{q:xA}{loose:List Str}{XP:(Str->Option xb)->Heap->Prop}{YP:xQ->Heap->Prop}{d:DefRec}{K:Params->wY}{CX:xQ->CXT}{sp:xQ->Sp}{x:Str}
  (hn:l.most=some n) (hn2:n<=xf) (hdf:d.params.defaults=[]) (hr:cq k callerA)
  (hY:∀(w:xQ) (h:Heap),YP w h->(K w.params).In h)
  (F:∀(w:xQ) (mg:Str->Option xb) (fa:Addr) (h:Heap),(K w.params).In h->h.Ns xZ mg->mg d.name=some (.ref fa) →
   ∃fd:yd,(∀(s:xh) (u:xb),BindsTo s fd ⟨[u],[]⟩ [(x,u)]) ∧
    ∀base:Heap,(K w.params).In base->base.Ns xZ mg->bG l.prog w (K w.params) mg base (CX w) k fa fd [x] (sp w))
  (hsp:∀(w:xQ) (H:Hp) (a:Addr) (ns:List Int),ns.length<=n->vj H->SqL (K w.params) H a (ns.map V.int)->sp w [.ref a] H (λv _=>v = .bl true) λ_ _ _=>False)
  (hCX:∀(w:xQ) (H:Hp) (s:xh) (e:xb) (s':xh),CX w [] H s (λ_ _ _=>False) e s'->False) :
  PySem.W.WalkO q loose XP YP l.row.toRowW d [] (λf vs=>PySem.call f vs):=by
 refine Att.lQ hn hdf λw s₀ s₁ mg mb fa o pm cd doc a vs ns G Y ho hd hcd hmg hobj hints hlen hg =>?_
 have KX:=hY w _ Y
 obtain ⟨fd,hb,hF⟩:=F w mg fa _ KX G.T.g hmg
 exact rg KX G.T.g G.T.b G.T.builtins G.T.nolimit hg hobj hints (ye hlen hn2) hr hF hb (λH hO hS=>hsp w H a ns hlen hO hS) λH e s'=>hCX w H s₁ e s'
open PySem PySem.Spec PyProof.Rows
def cO (s:Stmt):Arguments:=match s with
 | .FunctionDef _ a _ _ _ _ _ _ _ _=>a
 | _=>{ posonlyargs:=[],args:=[],vararg:=none,kwonlyargs:=[],kw_defaults:=[],kwarg:=none,defaults:=[] }
def cD (s:Stmt):List Stmt:=match s with
 | .FunctionDef _ _ b _ _ _ _ _ _ _=>b
 | _=>[]
def aB (s:Stmt):Scope:=match s with
 | .FunctionDef _ _ _ _ _ _ sc _ _ _=>sc
 | _=>{ kind :=.function,names:=[],isGenerator:=false,isCoroutine:=false }
abbrev CX0:CXT:=λ_ _ _ _ _ _=>False
abbrev E0:XK:=λ_ _ _=>False
theorem uF {X:Cx}:Passes CX0 X E0:=λ_ _ _ _ _ _ _ h=>h.elim
structure Fun (K:wY)(x qual:Str)(st:Stmt)(f:Addr)(fd:yd):Prop where
 ex:∃(oc:xb) (od:Option Addr) (kV doc pm:xb) (an:Option Addr) (cdv ct:xb) (osl:Array (Option xb)),
  fd=PySem.W.fnOf x qual (cO st) (cD st) (aB st) .none kV doc pm an cdv ct/\K.lookup f=some ⟨oc,od,.func fd,osl⟩/\PySem.W.codeIn K cdv qual=true
 kp:PySem.W.keepIn K (.ref f)=true
section
variable  {P:xA}{w:xQ}{K:wY}{mg:Str->Option xb}{base:Heap}
theorem Fun.ok {x qual:Str}{st:Stmt}{f:Addr}{fd:yd}{N ps:List Str}{k:Nat}{sp:Sp}(F:Fun K x qual st f fd)(S:aQ N ps (aB st))(len:∀vs H Q E,sp vs H Q E->vs.length=ps.length)
  (hbody:∀(cdv:xb) (A:yh) (outer:List Env) (s:xh) (H:Hp) (vs:List V) (Q:VK) (E:XK),cq k (A.deeper (envOfC qual (aB st) s.heap.objs.size f cdv))->sp vs H Q E →
   ∃t,PSs (mX CX0 P w K mg base N qual (aB st) f cdv A outer s H E).nox (cD st) t/\t { nx:=λ_ H'=>Q .non H',rt:=Q } (start N vs) H):bG P w K mg base CX0 (k+1) f fd ps sp:=by
 obtain ⟨oc,od,kV,doc,pm,an,cdv,ct,osl,rfl,lk,hcd⟩:=F.ex
 refine wq lk hcd S len λA outer s H vs Q E hr hsp =>?_
 obtain ⟨t,h,q⟩:=hbody cdv A outer s H vs Q E hr hsp
 exact ⟨t,h.nox,q⟩
theorem Fun.binds {x qual:Str}{st:Stmt}{f:Addr}{fd:yd}{ps:List Str}(F:Fun K x qual st f fd)
  (h:∀(kV doc pm:xb) (an:Option Addr) (cdv ct:xb) (us:List xb),us.length=ps.length->bindArgs (PySem.W.fnOf x qual (cO st) (cD st) (aB st) .none kV doc pm an cdv ct) ⟨us,[]⟩=pure (ps.zip us)):Binds K fd ps []:=by
 obtain ⟨oc,od,kV,doc,pm,an,cdv,ct,osl,rfl,lk,hcd⟩:=F.ex
 exact .all (h kV doc pm an cdv ct)
theorem m7 {x qual:Str}{st:Stmt}{f:Addr}{oc:xb}{od an:Option Addr}{osl:Array (Option xb)}{kV doc pm cdv ct:xb}(l:K.lookup f=some ⟨oc,od,.func (PySem.W.fnOf x qual (cO st) (cD st) (aB st) .none kV doc pm an cdv ct),osl⟩)
  (c:PySem.W.codeIn K cdv qual=true) (k:PySem.W.keepIn K (.ref f)=true):Fun K x qual st f (PySem.W.fnOf x qual (cO st) (cD st) (aB st) .none kV doc pm an cdv ct):=⟨⟨oc,od,kV,doc,pm,an,cdv,ct,osl,rfl,l,c⟩,k⟩
end
theorem wD {A:yh}{k:Nat}(hr:cq k A):A.units+1<cLine:=AV (AF (by decide:1<=64) _) hr.units
theorem pU {n:Nat}(h:n<=1000):n<xf:=AV h (by decide)
section
variable  {X:Cx}
theorem pv (i:Nat){x:Str}{pos:Pos}(hN:X.N[i]? = some x:=by rfl)(hv:Vis X.env.scope x:=by first | exact Or.inl rfl | exact Or.inr (Or.inl rfl) | exact Or.inr (Or.inr rfl))(hd:(x == ("__debug__" : Str))=false:=by decide)
  (hcd:(x == ("__classdict__" : Str))=false:=by decide):PE X (.Name x pos) (vV i):=uW hN hv hd hcd
end
theorem aT {A B:Prop}(h:B):if false=true then A else B:=by
 rw[if_neg xw]
 exact h
theorem aS {A B:Prop}(h:A):if true=true then A else B:=by
 rw[if_pos rfl]
 exact h
theorem bR {c A B:Prop}[Decidable c](h1:c->A)(h2:¬ c->B):if c then A else B:=by
 by_cases h:c
 ·rw[if_pos h]
  exact h1 h
 ·rw[if_neg h]
  exact h2 h
theorem uG {c A B:Prop}[Decidable c](hc:c)(h:B):if (!decide c)=true then A else B:=by
 rw[decide_eq_true hc]
 exact aT h
def aK (H H':Hp):Prop:=∀b o,H b=some o->H' b=some o
theorem aK.refl (H:Hp):aK H H:=λ_ _ h=>h
theorem aK.trans {H H1 H2:Hp}(a:aK H H1)(b:aK H1 H2):aK H H2:=λc o h=>b c o (a c o h)
theorem aK.free {H H':Hp}(e:aK H H'){l:Addr}(h:H' l=Option.none):H l=Option.none:=by
 cases q:H l with
 | none=>rfl
 | some o =>
  rw[e l o q] at h
  cases h
theorem aK.seq {K:wY}{H H':Hp}{a:Addr}{xs:List V}(e:aK H H')(h:SqL K H a xs):SqL K H' a xs:=by
 rcases h with (h | ⟨o,h⟩) | h
 ·exact .inl (.inl (e _ _ h))
 ·exact .inl (.inr ⟨o,e _ _ h⟩)
 ·exact .inr h
end L2
set_option maxHeartbeats 4000000
namespace L2
open PySem PySem.Spec PyProof.Rows
def lR (on:List (Str×NameKind))(N:List Str)(sc:Scope)(N':List Str)(ix:List (Option Nat)):Bool :=
 decide (sc.kind = .function) &&
 sc.names.all (λy=>match y.2 with
  | .local=>decide (sc.names.lookup y.1=some .local)
  | .cell=>false
  | .free=>decide (on.lookup y.1=some .cell) || decide (on.lookup y.1=some .free)
  | _=>true) &&
 decide (ix.length=N'.length) &&
 (ix.zip N').all (λp=>match p.1 with
  | none=>true
  | some j=>decide (N[j]? = some p.2) && decide (sc.names.lookup p.2=some .free))
theorem ib {ns:List (Str×NameKind)}{y:Str}{k:NameKind}(h:ns.lookup y=some k):(y,k)∈ns:=zJ h
structure iT (on:List (Str×NameKind))(N:List Str)(sc:Scope)(N':List Str)(ix:List (Option Nat)):Prop where
 kind:sc.kind = .function
 locs:∀y∈sc.names,y.2 = .local->sc.names.lookup y.1=some .local
 nocell:∀y∈sc.names,y.2 ≠ .cell
 frees:∀y∈sc.names,y.2 = .free->on.lookup y.1=some .cell\/on.lookup y.1=some .free
 len:ix.length=N'.length
 slot:∀(i j:Nat) (y:Str),ix[i]? = some (some j)->N'[i]? = some y->N[j]? = some y/\sc.names.lookup y=some .free
theorem iT.of {on:List (Str×NameKind)}{N:List Str}{sc:Scope}{N':List Str}{ix:List (Option Nat)}(h:lR on N sc N' ix=true):iT on N sc N' ix:=by
 unfold lR at h
 rw[yz,yz,yz] at h
 obtain ⟨⟨⟨h1,h2⟩,h3⟩,h4⟩:=h
 rw[yU] at h2 h4
 refine ⟨of_decide_eq_true h1,λy hy e =>?_,λy hy e =>?_,λy hy e =>?_,of_decide_eq_true h3,λi j y e1 e2 =>?_⟩
 ·have q:=h2 y hy
  rw[e] at q
  exact of_decide_eq_true q
 ·have q:=h2 y hy
  rw[e] at q
  cases q
 ·have q:=h2 y hy
  rw[e] at q
  exact ((Bool.or_eq_true _ _).mp q).imp of_decide_eq_true of_decide_eq_true
 ·have q:=h4 (some j,y) (xE (i:=i) (by rw[BO];exact ⟨e1,e2⟩))
  dsimp only at q
  rw[yz] at q
  exact ⟨of_decide_eq_true q.1,of_decide_eq_true q.2⟩
theorem ie {α β:Type}(f:α -> β -> β)(b:α -> β -> Sem (ForInStep β)):∀(l:List α) (c:β),(∀x∈l,∀d,b x d=pure (.yield (f x d)))->forIn l c b=pure (l.foldl (λd x=>f x d) c)
 | [],c,_=>rfl
 | x :: l,c,h=>by
  rw[List.forIn_cons,h x xN,pure_bind]
  exact ie f b l (f x c) λy hy=>h y (xR _ hy)
def aW (env:Env)(l:List (Str×NameKind))(c:List (Str×Addr)):List (Str×Addr) :=
 l.foldl (λd y=>if y.2 = .free then (y.1,(env.cells.lookup y.1).getD 0) :: d else d) c
theorem m8 {sc:Scope}{env:Env}(h:∀y∈sc.names,y.2 = .free->∃c,env.cells.lookup y.1=some c):closureFor sc env=pure (aW env sc.names []):=by
 simp only[closureFor]
 unfold aW
 rw[ie (λy d=>if y.2 = .free then (y.1,(env.cells.lookup y.1).getD 0) :: d else d)]
 ·rfl
 ·rintro ⟨n,k⟩ hy d
  by_cases hk:k = .free
  ·subst hk
   obtain ⟨c,e⟩:=h _ hy rfl
   have e':env.cells.lookup n=some c:=e
   simp only[beq_self_eq_true,if_true,cellOf,e',Option.getD_some]
   rfl
  ·have hb:(k == NameKind.free)=false:=by simpa using hk
   simp only[hb,ze,if_false,hk]
theorem cP {env:Env}{y:Str}{c:Addr}:∀(l:List (Str×NameKind)) (d:List (Str×Addr)),(∀z∈l,z.2 = .free->∃c,env.cells.lookup z.1=some c)->(aW env l d).lookup y=some c →
  d.lookup y=some c\/env.cells.lookup y=some c
 | [],d,_,h =>.inl h
 | (n,k) :: l,d,hf,h=>by
  have h':(aW env l (if k = .free then (n,(env.cells.lookup n).getD 0) :: d else d)).lookup y=some c:=h
  have ih:=cP l _ (λz hz=>hf z (xR _ hz)) h'
  by_cases hk:k = .free
  ·subst hk
   rw[if_pos rfl] at ih
   rcases ih with q | q
   ·rw[AB] at q
    cases hx:(y == n) with
    | true =>
     rw[hx] at q
     obtain ⟨c',e⟩:=hf (n,.free) xN rfl
     have e':env.cells.lookup n=some c':=e
     have q':some ((env.cells.lookup n).getD 0)=some c:=q
     rw[e'] at q'
     have en:y=n:=eq_of_beq hx
     rw[en,e']
     exact .inr q'
    | false =>
     rw[hx] at q
     exact .inl q
   ·exact .inr q
  ·rw[if_neg hk] at ih
   exact ih
theorem dQ {env:Env}{y:Str}:∀(l:List (Str×NameKind)) (d:List (Str×Addr)),((y,NameKind.free)∈l\/∃c,d.lookup y=some c)->∃c,(aW env l d).lookup y=some c
 | [],d,h=>by
  rcases h with h | h
  ·cases h
  ·exact h
 | (n,k) :: l,d,h=>by
  show ∃c,(aW env l (if k = .free then (n,(env.cells.lookup n).getD 0) :: d else d)).lookup y=some c
  refine dQ l _ ?_
  have old:(∃c,d.lookup y=some c)->∃c,(if k = .free then (n,(env.cells.lookup n).getD 0) :: d else d).lookup y=some c:=λ⟨c,e⟩=>by
   by_cases hk:k = .free
   ·rw[if_pos hk,AB]
    cases hx:(y == n) with
    | true=>exact ⟨_,rfl⟩
    | false=>exact ⟨c,e⟩
   ·rw[if_neg hk];exact ⟨c,e⟩
  rcases h with h | h
  ·rcases xK.mp h with q | q
   ·cases q
    rw[if_pos rfl,AB,beq_self_eq_true]
    exact .inr ⟨_,rfl⟩
   ·exact .inl q
  ·exact .inr (old h)
theorem iU {c:Str->NameKind->Bool}{y:Str}:∀l:List (Str×NameKind),(l.map λz=>if c z.1 z.2=true then (z.1,NameKind.cell) else (z.1,z.2)).lookup y=(l.lookup y).map λk=>if c y k=true then NameKind.cell else k
 | []=>rfl
 | (n,k) :: l=>by
  have ih:=iU (c:=c) (y:=y) l
  rw[xJ]
  have e:(if c n k=true then (n,NameKind.cell) else (n,k))=(n,if c n k=true then NameKind.cell else k):=by split <;> rfl
  show List.lookup y ((if c n k=true then (n,NameKind.cell) else (n,k)) :: _)=_
  rw[e,AB,AB]
  cases hx:(y == n) with
  | true =>
   have en:y=n:=eq_of_beq hx
   subst en
   rfl
  | false=>exact ih
def blk (X:Cx)(sc:Scope)(cl:List (Str×Addr))(C:Addr)(N':List Str)(s:xh)(H:Hp)(fp:List Addr):Cx :=
 { X with N:=N',s₀:=s,H₀:=H,env:=compEnvC sc cl C X.env,outer:=X.stack,ex:=fp,fn:=λ_=>false,pn:=[],xe:=λ_ _=>False }
def PF (X:Cx)(ifs:List Expr)(t:TT):Prop :=
  ∀(pins:List (Addr×Obj)) (s:xh) (σ:St) (H:Hp) (Q:Bool->Hp->Prop),Inv X pins σ H s->t σ H Q →
    xM (xT X.prog X.w) X.A (forIn ifs true λc r=>if r=true then do let ok ← isTrue c X.env (eval c X.env);pure (ForInStep.yield ok) else pure (ForInStep.yield r)) (TP X pins σ Q) X.xe s
theorem bF {X:Cx}:PF X [] (λ_ H Q=>Q true H):=λ_ _ _ H _ I h=>wpAny_tests_nil ⟨H,I,h⟩
theorem iV {X:Cx}{c:Expr}{t:TT}(h:PT X c t):PF X [c] t:=λpins s σ H Q I q=>wpAny_tests_one (h pins s σ H Q I q)
def inner (ix:List (Option Nat))(σ:St):St:=ix.map λo=>match o with | none=>none | some j=>(σ[j]?).join
def eS (J:It)(g:TG)(tc:TT)(te:TE)(τ:St)(Q:VK)(H1:Hp):Prop:=∃W:Nat->Nat->St->List V->Hp->Prop,(∃m,W 0 m τ [] H1)/\∀i m τ ys H,W i m τ ys H →
 (J.stop i H/\ys.length<=xf/\∀l,H l=none->Q (.ref l) (upd H l (.lst ys))) ∨
 (J.go i H/\∀x H',J.yld i H x H'->g x τ H' λτ2 H2=>tc τ2 H2 λb H3=>if b=true then te τ2 H3 λy H4=>ys.length<xf/\∃m',m'<m/\W (i+1) m' τ2 (ys++[y]) H4 else ∃m',m'<m/\W (i+1) m' τ2 ys H3)
def rh (ix:List (Option Nat))(wi:TI)(g:TG)(tc:TT)(te:TE):TE:=λσ H Q=>wi σ H λJ H1=>eS J g tc te (inner ix σ) Q H1
section
variable  {X:Cx}{sc:Scope}{N':List Str}{ix:List (Option Nat)}{pins:List (Addr×Obj)}{σ:St}{H:Hp}{s:xh}
theorem vk (I:Inv X pins σ H s)(K:iT X.env.scope.names X.N sc N' ix){C:Addr}{fp:List Addr}(hC:s.heap.objs.size<=C)(f:∀b∈fp,iy X pins H b)(fl:∀b∈fp,b<s.heap.objs.size) :
  (blk X sc (aW X.env sc.names []) C N' s H fp).Ok:=by
 have hcl:∀y∈sc.names,y.2 = .free->∃c,X.env.cells.lookup y.1=some c:=λy hy e=>I.ok.has y.1 (K.frees y hy e)
 have up:∀y c,(aW X.env sc.names []).lookup y=some c->X.env.cells.lookup y=some c:=λy c e=>by
  rcases cP sc.names [] hcl e with q | q
  ·cases q
  ·exact q
 have nfs:∀b∈fp,b∉frs X.stack:=λb hb z=>by
  rcases xK.mp (I.kD b z) with q | q
  ·exact (f b hb).2.1 q
  ·exact (f b hb).2.2.1 q
 refine ⟨I.ok.mod,K.kind,I.ok.glob,I.ok.blt,hC,λy z c h1 h2=>I.ok.inj y z c (up _ _ h1) (up _ _ h2),λy hy =>?_,(λy c h=>nomatch h),I.ok.hd,I.ok.frames,.inl rfl,λb hb =>?_,λb o e=>I.bs b o e,ye I.ok.bsz I.sz,λb o e hb =>?_,nfs,I.stack,I.oi⟩
 ·have hy':(relabel sc X.env).names.lookup y=some .cell\/(relabel sc X.env).names.lookup y=some .free:=hy
  have em:=iU (c:=λn k=>k == .free && X.env.scope.kind == .function && X.env.kindOf n == some .cell) (y:=y) sc.names
  have em':(relabel sc X.env).names.lookup y=_:=em
  rw[em'] at hy'
  cases hq:sc.names.lookup y with
  | none=>rw[hq] at hy';rcases hy' with q | q <;> cases q
  | some k =>
   have km:=ib hq
   have hk:k = .free:=by
    rw[hq] at hy'
    simp only[CA,Option.some.injEq] at hy'
    by_cases hc:(k == .free && X.env.scope.kind == .function && X.env.kindOf y == some .cell)=true
    ·rw[yz,yz] at hc
     exact by simpa using hc.1.1
    ·rw[if_neg hc] at hy'
     rcases hy' with q | q
     ·exact absurd q (K.nocell _ km)
     ·exact q
   subst hk
   exact dQ sc.names [] (.inl km)
 ·exact ⟨xF (xH (fl b hb) hC),λy c e=>(f b hb).2.2.2.2.1 y c (up y c e)⟩
 ·rcases (f b hb).2.2.2.1 with q | q
  ·exact I.ok.noex b o e q
  ·exact absurd (xH (xt e) (ye I.ok.bsz q)) (yt _)
theorem tw (I:Inv X pins σ H s)(K:iT X.env.scope.names X.N sc N' ix){C:Addr}{fp:List Addr}(hC:s.heap.objs.size<=C)(f:∀b∈fp,iy X pins H b)(fl:∀b∈fp,b<s.heap.objs.size)
  {h1:Heap} {t:Nat} {m:Str->Option xb} (k:∀b o,s.heap.get? b=some o->h1.get? b=some o) (ns:h1.Ns C m) :
  Inv (blk X sc (aW X.env sc.names []) C N' s H fp) [] (inner ix σ) H { s with heap:=h1,toks:=t }:=by
 have hcl:∀y∈sc.names,y.2 = .free->∃c,X.env.cells.lookup y.1=some c:=λy hy e=>I.ok.has y.1 (K.frees y hy e)
 have up:∀y c,(aW X.env sc.names []).lookup y=some c->X.env.cells.lookup y=some c:=λy c e=>by
  rcases cP sc.names [] hcl e with q | q
  ·cases q
  ·exact q
 refine ⟨vk I K hC f fl,rfl,I.bare,Un.kept k,⟨m,ns,λi y v e1 e2 e3 =>?_⟩,λy c e =>?_,I.hok.fresh hC,λy c e=>I.freeC y c (up y c e),(λp hp=>nomatch hp),I.hok.kept k,?_⟩
 ·have e2':(ix.map λo=>match o with | none=>none | some j=>(σ[j]?).join)[i]? = some (some v):=e2
  rw[xW] at e2'
  cases hi:ix[i]? with
  | none=>rw[hi] at e2';cases e2'
  | some o =>
   cases o with
   | none=>rw[hi] at e2';cases e2'
   | some j =>
    rw[hi] at e2'
    have e4:(σ[j]?).join=some v:=x9 e2'
    have e5:σ[j]? = some (some v):=by
     cases hj:σ[j]? with
     | none=>rw[hj] at e4;cases e4
     | some z=>rw[hj] at e4;rw[show z=some v from e4]
    obtain ⟨n1,n2⟩:=K.slot i j y hi e1
    have mem:=ib n2
    have kc:X.env.kindOf y=some .cell\/X.env.kindOf y=some .free:=K.frees _ mem rfl
    obtain ⟨m',_,hl⟩:=I.loc
    obtain ⟨u,r,l⟩:=hl j y v n1 e5 (.inr kc)
    refine ⟨u,r,?_⟩
    rcases l with ⟨q,_⟩ | ⟨_,c,q,z⟩
    ·rcases kc with kc | kc <;> (rw[kc] at q;cases q)
    ·obtain ⟨c',hc'⟩:=dQ (env:=X.env) (y:=y) sc.names [] (.inl mem)
     have:=up y c' hc'
     rw[q] at this
     cases this
     refine .inr ⟨?_,c,hc',z.keeps k⟩
     have em:=iU (c:=λn k=>k == .free && X.env.scope.kind == .function && X.env.kindOf n == some .cell) (y:=y) sc.names
     have em':(relabel sc X.env).names.lookup y=_:=em
     rcases kc with kc | kc
     ·left
      show (relabel sc X.env).names.lookup y=some .cell
      rw[em',n2]
      simp only[CA,kc,I.ok.kind]
      rfl
     ·right
      show (relabel sc X.env).names.lookup y=some .free
      rw[em',n2]
      simp only[CA,kc,I.ok.kind]
      rfl
 ·obtain ⟨v,z⟩:=I.cell y c (up y c e)
  exact ⟨v,z.keeps k⟩
 ·show (ix.map _).length=N'.length
  rw[wW]
  exact K.len
end
open PySem PySem.Spec PyProof.Rows
theorem m9 {prog:xA}{w:xQ}{A:yh}{R:Result->xh->Prop}{s:xh}{elt target iter:Expr}{ifs:List Expr}{sc:Scope}{pos:Pos}{it acc:xb}{env:Env}(J:Nat->xh->Prop)
    (turn:∀n s,J n s->xM (xT prog w) A (pyNext it) (λr s1=>match r with
      | none=>R (.ok .next) s1
      | some v=>xM (xT prog w) A (letOwnedTupleGo target it v) (λ_ s2=>xM (xT prog w) A (assign target env v) (λ_ s3 =>
          xM (xT prog w) A (forIn ifs true λc r=>if r=true then do let ok ← isTrue c env (eval c env);pure (ForInStep.yield ok) else pure (ForInStep.yield r)) (λok s4 =>
            if ok=true then xM (xT prog w) A (eval elt env) (λx s5=>xM (xT prog w) A (call (.builtin "list.append") [acc,x]) (λ_ s6=>∃m,m<n/\J m s6) (λ_ _=>False) s5) (λ_ _=>False) s4
            else ∃m,m<n/\J m s4) (λ_ _=>False) s3) (λ_ _=>False) s2) (λ_ _=>False) s1) (λ_ _=>False) s)
    (n:Nat) (h:J n s):Bl (xT prog w) A (.compLoop (.ListComp elt [⟨target,iter,ifs,0⟩] sc pos) 0 it acc env) R s:=by
  refine codeAny_loop rfl J (λk t q =>?_) n h
  show xM _ A (Sem.onRaise (compTurn (.ListComp elt [⟨target,iter,ifs,0⟩] sc pos) 0 it acc env) (λx=>do noteFrame x env;theTreesLotGoes x)) _ _ t
  refine wpAny_noted ?_
  rw[compTurn_list]
  have no:∀{E:xb->xh->Prop} (x:xb) (t:xh),False->E x t:=λ_ _ z=>z.elim
  refine wZ (Dv (wZ (zX (turn k t q) (λr s1 h1 =>?_) no)))
  cases r with
  | none=>exact xn h1
  | some v =>
    refine wZ (zX h1 (λ_ s2 h2=>wZ (zX h2 (λ_ s3 h3=>wZ (zX h3 (λok s4 h4 =>?_) no)) no)) no)
    cases ok with
    | false=>exact xn ⟨rfl,h4⟩
    | true=>exact wZ (wZ (zX h4 (λx s5 h5=>wZ (zX h5 (λ_ s6 h6=>xn (xn ⟨rfl,h6⟩)) no)) no))
section
variable  {X:Cx}
def tD (X:Cx)(pins:List (Addr×Obj))(σ:St)(Q:VK)(use:Option (xb->Sem Unit))(Q2:xb->xh->Prop):Prop :=
 ∀(s4:xh) (H3:Hp) (acc C:Addr) (ys:List V) (oC:Obj),Inv X (pins++[(C,oC)]) σ (upd H3 acc (.lst ys)) s4->(∃m,s4.heap.Ns C m)->X.s₀.heap.objs.size<=C->(∀x c,X.env.cells.lookup x=some c->c≠C)->(∀p∈X.pn++pins,p.1≠C)->Q (.ref acc) (upd H3 acc (.lst ys)) →
  compPost (xT X.prog X.w) X.A X.xe use Q2 (.ref acc) C (.ok .next) s4
theorem jZ {elt target iter:Expr}{ifs:List Expr}{sc:Scope}{pos ps:Pos}{wi:TI}{g:TG}{tc:TT}{te:TE}{N':List Str}{ix:List (Option Nat)}{use:Option (xb->Sem Unit)}{Q2:xb->xh->Prop}
  {pins:List (Addr×Obj)} {s:xh} {σ:St} {H:Hp} {Q:VK}
  (hcalm:X.calm=true) (hi:PI X target iter wi) (hk:lR X.env.scope.names X.N sc N' ix=true)
  (hg:∀cl C s H fp,PG (blk X sc cl C N' s H fp) target g) (hc:∀cl C s H fp,PF (blk X sc cl C N' s H fp) ifs tc) (he:∀cl C s H fp,PE (blk X sc cl C N' s H fp) elt te)
  (hs:∀x,foldedSetIterable iter X.env x=pure x) (fin:tD X pins σ Q use Q2) (I:Inv X pins σ H s) (h:rh ix wi g tc te σ H Q) :
  xM (xT X.prog X.w) X.A (comprehension (.ListComp elt [⟨target,iter,ifs,0⟩] sc pos) sc X.env ps (newList []) false (eval iter X.env) use) Q2 X.xe s:=by
 have K:=iT.of hk
 have hcl:∀y∈sc.names,y.2 = .free->∃c,X.env.cells.lookup y.1=some c:=λy hy e=>I.ok.has y.1 (K.frees y hy e)
 refine wpAny_comprehension_free rfl hs (m8 hcl) K.kind K.locs (thn (hi pins s σ H _ I h) λv s1 h1=>thn h1 λitv s2 h2 =>?_)
 obtain ⟨it,fp,tn,J,H2,e,I2,T,st2,f2,W,⟨m0,w0⟩,turn⟩:=h2
 subst e
 refine yl (wpAny_newFunctionEnv K.nocell (by intro y hy;simp at hy) (λh1 ns1 sb1 =>?_) K.kind)
 dsimp only at ns1 sb1 ⊢
 generalize hP:s2.heap.push { cls :=.type "list",dict:=none,data :=.seq ([]:List xb).toArray }=G at ns1 sb1 ⊢
 have sG:G.objs.size=s2.heap.objs.size+1:=by rw[<- hP,zG]
 have fl:∀b∈fp,b<s2.heap.objs.size:=λb hb=>by
  obtain ⟨o,e,_⟩:=T.obj _ _ st2 b hb
  exact xt e
 have hC:s2.heap.objs.size<=G.objs.size:=by rw[sG];exact Br _
 have aC:s2.heap.objs.size≠G.objs.size:=by rw[sG];exact xF (y6 _)
 have old:∀b o,s2.heap.get? b=some o->h1.get? b=some o:=λb o e=>by
  have lt:=xt e
  have ne:b≠G.objs.size:=xF (xH lt hC)
  rw[sb1.2 b ne]
  exact wX _ (hP ▸ wX _ e)
 have accO:h1.PlainList s2.heap.objs.size #[]:=⟨_,by
  rw[sb1.2 _ aC]
  exact wX _ (hP ▸ xr _ rfl)⟩
 have IB:=tw (t:=s2.toks+([]:List (Str×xb)).length) I2 K hC f2 fl old ns1
 have up:∀y c,(aW X.env sc.names []).lookup y=some c->X.env.cells.lookup y=some c:=λy c e=>by
  rcases cP sc.names [] hcl e with q | q
  ·cases q
  ·exact q
 have accNotCell:∀y c,(aW X.env sc.names []).lookup y=some c->c≠s2.heap.objs.size:=λy c e z=>by
  obtain ⟨v,q⟩:=I2.cell y c (up y c e)
  exact absurd q.lt (by rw[z];exact yt _)
 have accFs:s2.heap.objs.size∉frs X.stack:=λz=>by
  rcases xK.mp (I2.kD _ z) with q | q
  ·exact absurd I2.lt (by rw[<- q];exact yt _)
  ·exact I2.uV (xg _) q
 have accFp:s2.heap.objs.size∉fp:=λz=>absurd (fl _ z) (yt _)
 have stat:∀{H':Hp} {ob:Obj},(∀b∈fp,H' b=none)->∀b∈fp,iy (blk X sc (aW X.env sc.names []) G.objs.size N' s2 H2 fp) [(s2.heap.objs.size,ob)] H' b:=λ{H' ob} hn b hb=>by
  refine ⟨hn b hb,xF (xH (fl b hb) hC),IB.ok.exfs b hb,.inl hb,λy c e=>(f2 b hb).2.2.2.2.1 y c (up y c e),λp hp z =>?_⟩
  have ep:p=(s2.heap.objs.size,ob):=by simpa [blk] using hp
  subst ep
  exact accFp (by rw[show s2.heap.objs.size=b from z];exact hb)
 have accPin:∀{pl:List (Addr×Obj)} {σ':St} {H':Hp} {s':xh} {its:Array xb} {n:Nat},Inv (blk X sc (aW X.env sc.names []) G.objs.size N' s2 H2 fp) pl σ' H' s'->s'.heap.get? s2.heap.objs.size=some { cls :=.type "list",data :=.seq its n } →
   H' s2.heap.objs.size=none->Inv (blk X sc (aW X.env sc.names []) G.objs.size N' s2 H2 fp) [(s2.heap.objs.size,{ cls :=.type "list",data :=.seq its n })] σ' H' s':=λ{pl σ' H' s' its n} J' e nn=>J'.gh λp hp=>by
  have ep:p=(s2.heap.objs.size,({ cls :=.type "list",data :=.seq its n }:Obj)):=by simpa [blk] using hp
  subst ep
  exact ⟨e,nn,aC,accFs,λv z=>nomatch z⟩
 have loop:Bl (xT X.prog X.w) X.A (.compLoop (.ListComp elt [⟨target,iter,ifs,0⟩] sc pos) 0 (.ref it) (.ref s2.heap.objs.size) (compEnvC sc (aW X.env sc.names []) G.objs.size X.env))
   (compPost (xT X.prog X.w) X.A X.xe use Q2 (.ref s2.heap.objs.size) G.objs.size) { s2 with heap:=h1,toks:=s2.toks+([]:List (Str×xb)).length }:=by
  refine m9 (λn s'=>∃i ys its nn σ' H',Inv (blk X sc (aW X.env sc.names []) G.objs.size N' s2 H2 fp) [(s2.heap.objs.size,{ cls :=.type "list",data :=.seq its nn })] σ' H' s'/\Vals ys its.toList/\tn i s'.heap/\(∀b∈fp,H' b=none)/\W i n σ' ys H')
   (λn s3 h3 =>?_) m0 ?_
  ·obtain ⟨i,ys,its,nn,σ3,H3,I3,r3,st3,fr3,w3⟩:=h3
   obtain ⟨e3,a3,_,_,_⟩:=I3.pin (s2.heap.objs.size,{ cls :=.type "list",data :=.seq its nn }) (by simp[blk])
   rcases turn i n σ3 ys H3 w3 with ⟨stop,zl,q3⟩ | ⟨go,step⟩
   ·refine thn (T.done (blk X sc (aW X.env sc.names []) G.objs.size N' s2 H2 fp) rfl rfl rfl hcalm i _ s3 σ3 H3 _ I3 (stat fr3) st3 stop) λr s4 ⟨hr,I4⟩ =>?_
    subst hr
    obtain ⟨e4,a4,_,_,_⟩:=I4.pin (s2.heap.objs.size,{ cls :=.type "list",data :=.seq its nn }) (by simp[blk])
    obtain ⟨m4,n4,_⟩:=I4.loc
    obtain ⟨oC,es4,ep4,c4,d4,r4⟩:=id n4
    have ltA:∀b o,s2.heap.get? b=some o->b≠s2.heap.objs.size:=λb o e=>xF (xt e)
    have B:=I4.base
    have hok:HOk X.prog X.w (upd H3 s2.heap.objs.size (.lst ys)) s4.heap:=λb o e=>by
     by_cases hb:b=s2.heap.objs.size
     ·subst hb
      rw[ae] at e
      cases e
      exact ⟨zl,its.toList,nn,r3,e4⟩
     ·rw[aG hb] at e
      refine (I4.hok b o e).mR (λc u hc q=>q) (λc q =>?_) (λc xs q =>?_)
      ·rw[aG (aP q a4)];exact q
      ·rw[aG (aP q a4)];exact q
    have I5:Inv X pins σ (upd H3 s2.heap.objs.size (.lst ys)) s4:=by
     refine I2.vU (ch:=fp) I4.os ⟨λb o e n hb hx=>B.keep b o e n hb hx,λb o e n hb hx=>B.slot b o e n hb hx,λb o e n hx =>?_,λb o e hx=>B.there b o e hx,λb xs e =>?_,λb o u e =>?_,λb ps e =>?_⟩ hok I4.bare (λb hb =>?_)
     ·rw[aG (ltA b o e)];exact B.free b o e n hx
     ·have q:=B.tups b xs e
      rw[aG (aP q a4)];exact q
     ·have q:=B.frzs b o u e
      rw[aG (aP q a4)];exact q
     ·obtain ⟨more,q⟩:=B.tbls b ps e
      exact ⟨more,by rw[aG (aP q a4)];exact q⟩
     ·obtain ⟨g0,g1,g2,g3,g4,g5⟩:=f2 b hb
      exact ⟨g3,g1,g4,g5⟩
    have cL:G.objs.size≠X.env.locals:=zO (xH I2.lt hC)
    have I6:Inv X (pins++[(G.objs.size,oC)]) σ (upd H3 s2.heap.objs.size (.lst ys)) s4:=I5.gh λp hp=>by
     rcases xx.mp hp with q | q
     ·exact I5.pin p (xS _ q)
     ·have ep:p=(G.objs.size,oC):=by simpa using q
      subst ep
      exact ⟨c4,by rw[aG (zA aC)];exact I4.free,cL,I2.uV hC,λv z=>by rw[d4] at z;cases z⟩
    refine fin s4 H3 s2.heap.objs.size G.objs.size ys oC I6 ⟨m4,n4⟩ (ye I2.sz hC) (λy c e z =>?_) (λp hp z =>?_) (q3 _ a4)
    ·obtain ⟨v,q⟩:=I2.cell y c e
     exact absurd (xH q.lt hC) (by rw[z];exact yt _)
    ·exact absurd (xH (xt (I2.pin p hp).1) hC) (by rw[z];exact yt _)
   ·refine thn (T.item (blk X sc (aW X.env sc.names []) G.objs.size N' s2 H2 fp) rfl rfl rfl hcalm i _ s3 σ3 H3 _ I3 (stat fr3) st3 go) λr s4 ⟨u,hr,h4⟩ =>?_
    subst hr
    refine thn h4 λ_ s5 ⟨x,H5,I5,r5,y5,st5,fr5⟩ =>?_
    have I5':=I5.pinned (stat fr5) (T.obj _ _ st5)
    refine thn (hg _ _ _ _ _ _ s5 σ3 H5 x u _ I5' r5 (step x H5 y5)) λ_ s6 ⟨σ6,H6,I6,q6⟩ =>?_
    refine thn (hc _ _ _ _ _ _ s6 σ6 H6 _ I6 q6) λok s7 ⟨H7,I7,q7⟩ =>?_
    have back:∀{σ7:St} {H7:Hp} {s7:xh},Inv (blk X sc (aW X.env sc.names []) G.objs.size N' s2 H2 fp) ([(s2.heap.objs.size,{ cls :=.type "list",data :=.seq its nn })]++fP fp s5.heap) σ7 H7 s7->tn (i+1) s7.heap/\∀b∈fp,H7 b=none:=λJ7 =>
     ⟨T.keep _ _ _ st5 λb hb o e=>(J7.pin (b,o) (xS _ (xS _ (cX hb e)))).1,λb hb=>by
      obtain ⟨o,e,d⟩:=T.obj _ _ st5 b hb
      exact (J7.pin (b,o) (xS _ (xS _ (cX hb e)))).2.1⟩
    cases ok with
    | false =>
     rw[if_neg (by decide)] at q7
     obtain ⟨m',lm,w7⟩:=q7
     show ∃m,m<n/\_
     exact ⟨m',lm,i+1,ys,its,nn,σ6,H7,I7.dE,r3,(back I7).1,(back I7).2,w7⟩
    | true =>
     rw[if_pos rfl] at q7
     refine thn (he _ _ _ _ _ _ s7 σ6 H7 _ I7 q7) λz s8 ⟨y,H8,I8,r8,lz,m',lm,w8⟩ =>?_
     obtain ⟨e8,a8,_,_,_⟩:=I8.pin (s2.heap.objs.size,{ cls :=.type "list",data :=.seq its nn }) (by simp[blk])
     have sz:its.size<=xf:=by
      have l:ys.length=its.size:=r3.length.trans xk
      rw[<- l]
      exact Ak lz
     refine wpAny_list_append_plain ⟨nn,e8⟩ (λh' pl' sb' =>?_) sz
     obtain ⟨n9,e9⟩:=pl'
     have I8p:Inv (blk X sc (aW X.env sc.names []) G.objs.size N' s2 H2 fp) (fP fp s5.heap) σ6 H8 s8:=I8.gh λp hp=>I8.pin p (xS _ (xS _ hp))
     have I9:=I8p.turned (it:=s2.heap.objs.size) (h':=h') (t':=s8.toks) (λb o ne e=>by rw[sb'.2 b ne];exact e) a8 aC (.inr (xg _)) (λy c e=>accNotCell y c e) (λp hp z=>by
      have hp':p∈fP fp s5.heap:=by simpa [blk] using hp
      exact accFp (by rw[<- z];exact (jT hp').1))
     have b9:tn (i+1) h'/\∀b∈fp,H8 b=none :=
      ⟨T.keep _ _ _ st5 λb hb o e=>(I9.pin (b,o) (xS _ (cX hb e))).1,(back I8).2⟩
     exact ⟨m',lm,i+1,ys++[y],its.push z,n9,σ6,H8,accPin I9 e9 a8,by rw[zU];exact r3.append (.cons r8 .nil),b9.1,b9.2,w8⟩
  ·obtain ⟨n0,e0⟩:=accO
   exact ⟨0,[], #[],n0,_,H2,accPin IB e0 (I2.hok.fresh (xg _)),.nil,T.keep _ _ _ st2 λb hb o e=>old b o e,λb hb=>(f2 b hb).1,w0⟩
 exact codeAny_compStart_list loop (T.self _ 0 _ _ _ (T.keep _ _ _ st2 λb hb o e=>old b o e) loop)
theorem bj {elt target iter:Expr}{ifs:List Expr}{sc:Scope}{pos:Pos}{wi:TI}{g:TG}{tc:TT}{te:TE}(N':List Str)(ix:List (Option Nat))
  (hcalm:X.calm=true) (hi:PI X target iter wi) (hk:lR X.env.scope.names X.N sc N' ix=true)
  (hg:∀cl C s H fp,PG (blk X sc cl C N' s H fp) target g) (hc:∀cl C s H fp,PF (blk X sc cl C N' s H fp) ifs tc) (he:∀cl C s H fp,PE (blk X sc cl C N' s H fp) elt te)
  (hs:∀x,foldedSetIterable iter X.env x=pure x:=by intro _;rfl):PE X (.ListComp elt [⟨target,iter,ifs,0⟩] sc pos) (rh ix wi g tc te):=by
 intro pins s σ H Q I h
 rw[eval_ListComp]
 refine jZ hcalm hi hk hg hc he hs (λs4 H3 acc C ys oC I4 ns hC hc hp q =>?_) I h
 obtain ⟨m,ns⟩:=ns
 refine ⟨m,ns,λh' sb=>⟨.ref acc,_,?_,rfl,q⟩⟩
 obtain ⟨_,n0,n1,n2,_⟩:=I4.pin (C,oC) (by simp)
 exact (I4.dE).turned (it:=C) (h':=h') (t':=s4.toks) (λb o ne e=>by rw[sb.2 b ne];exact e) n0 n1 (.inr hC) hc hp
theorem cz {elt target iter:Expr}{ifs:List Expr}{sc:Scope}{pos pos' spos:Pos}{wi:TI}{g:TG}{tc:TT}{te:TE}{i:Nat}{x:Str}(N':List Str)(ix:List (Option Nat))
    (hcalm:X.calm=true) (hN:X.N.Nodup) (hx:X.N[i]? = some x) (hl:X.env.scope.names.lookup x=some .local)
    (hi:PI X target iter wi) (hk:lR X.env.scope.names X.N sc N' ix=true)
    (hg:∀cl C s H fp,PG (blk X sc cl C N' s H fp) target g) (hc:∀cl C s H fp,PF (blk X sc cl C N' s H fp) ifs tc) (he:∀cl C s H fp,PE (blk X sc cl C N' s H fp) elt te)
    (hsw:swapsWith (.ListComp elt [⟨target,iter,ifs,0⟩] sc pos) (some (.Name x pos')) spos.line X.env=pure true:=by rfl)
    (hs:∀x,foldedSetIterable iter X.env x=pure x:=by intro _;rfl):PS X (.Assign [.Name x pos'] (.ListComp elt [⟨target,iter,ifs,0⟩] sc pos) spos) (u7 (rh ix wi g tc te) (dD i)):=by
  intro pins s σ H D I h
  rw[exec_Assign_Name_used _ _ _ _ hsw]
  refine wZ (Dv (wZ ?_))
  show xM _ X.A (do let _ ← comprehension (.ListComp elt [⟨target,iter,ifs,0⟩] sc pos) sc X.env _ (newList []) false (eval iter X.env) (some (assign (.Name x pos') X.env))) _ _ s
  refine wZ (zX (jZ (Q:=λv H1=>D.nx (σ.set i (some v)) H1) (Q2:=λ_ s'=>SP X pins D .next s') hcalm hi hk hg hc he hs (λs4 H3 acc C ys oC I4 ns hC hc hp q =>?_) I h) (λ_ s' q=>xn (xn q)) λ_ _ e=>e)
  obtain ⟨m,ns⟩:=ns
  obtain ⟨e0,n0,n1,n2,_⟩:=I4.pin (C,oC) (by simp)
  show xM _ X.A (assign (.Name x pos') X.env (.ref acc)) _ _ s4
  refine thn ((aD (i:=i) hN hx (.inl hl) (.inr hl)) (pins++[(C,oC)]) s4 σ _ (.ref acc) (.ref acc) _ I4 rfl q) λ_ s5 ⟨σ5,H5,I5,q5⟩ =>?_
  obtain ⟨e5,k0,k1,k2,_⟩:=I5.pin (C,oC) (by simp)
  obtain ⟨o',es',ep',c',r'⟩:=ns
  have e':=e0.symm.trans c'
  cases e'
  refine ⟨m,⟨_,es',ep',e5,r'⟩,λh' sb=>⟨σ5,H5,?_,q5⟩⟩
  exact (I5.dE).turned (it:=C) (h':=h') (t':=s5.toks) (λb o ne e=>by rw[sb.2 b ne];exact e) k0 k1 (.inr hC) hc hp
end
open PySem PySem.Spec PyProof.Rows
section
variable  {X:Cx}
theorem kI {j:Int}(h0:0<j)(h:j<2 ^ 200):j.natAbs.log2<9000:=by
 have h1:j.natAbs<2 ^ 200:=by lia
 have h2:j.natAbs.log2<200:=(Nat.log2_lt (by lia)).mpr h1
 lia
def wF (_ j:Int):Prop:=0<j/\j<2 ^ 200
theorem kJ:bK X (.builtin "divmod") (λxs H Q=>∃i j,xs=[.int i,.int j]/\wF i j/\∀p,H p=none->Q (.ref p) (upd H p (.tup [.int (i/j),.int (i%j)]))):=by
 intro pins s σ H xs us Q I r h
 obtain ⟨i,j,rfl,⟨h1,h2⟩,q⟩:=h
 obtain ⟨u,w',rfl,⟨t,rfl⟩,⟨t',rfl⟩⟩:=vals2 r
 refine divmod_int (by lia) ?_ (.inl (PyProof.noPylong_of_log2 (kI h1 h2)))
 rw[BC i (by lia),BD i (by lia)]
 refine ⟨.ref s.heap.objs.size,_,?_,rfl,q _ I.fresh⟩
 refine I.laid (λb o e=>wX _ e) (xg _) ⟨by simp only[xV,zV];rw[D6];decide,[.int (i/j) s.toks,.int (i%j) (s.toks+1)],.cons ⟨_,rfl⟩ (.cons ⟨_,rfl⟩ .nil),?_⟩
 exact ⟨_,xr s.heap rfl,⟨rfl,rfl⟩,0,rfl⟩
def wG (K:wY):R2:=λx y H Q=>∃l b xs zs,x = .ref l/\y = .ref b/\SqL K H l xs/\SqL K H b zs/\xs.length+zs.length<=xf/\∀p,H p=none->Q (.ref p) (upd H p (.lst (xs++zs)))
theorem bW:OpR X (binaryOp .Add) (wG X.K):=by
 intro pins s σ H x y v u Q I rx ry h
 obtain ⟨l,b,xs,zs,rfl,rfl,hH,hB,hz,q⟩:=h
 cases rx
 cases ry
 obtain ⟨its,r,e,z⟩:=I.list hH
 obtain ⟨its2,r2,e2,z2⟩:=I.list hB
 obtain ⟨⟨c1,d1,da1,sl1⟩,n,e,k1,k2,k3⟩:=e
 obtain ⟨⟨c2,d2,da2,sl2⟩,n2,e2,g1,g2,g3⟩:=e2
 simp only at k1 k3 g1 g3
 subst k1 k3 g1 g3
 have l1:=r.length
 have l2:=r2.length
 have ea:its.toArray++its2.toArray=(its++its2).toArray:=by simp
 refine CQ ⟨_,e,rfl⟩ ⟨_,e2,rfl⟩ noFill_list_add seq_list_add PySem.F.slot_list_add PySem.F.entry_list_add
  (PySem.F.args_list_add_2 _ _) (list_addW l b its.toArray its2.toArray n n2 d1 d2 sl1 sl2 (by rw[xc,xc];omega)) ⟨e,e2,?_⟩
 rw[ea]
 exact ⟨.ref _,_,I.wB (t':=s.toks) (r.append r2) (by rw[w9];omega),rfl,q _ I.fresh⟩
theorem eU:bK X (.builtin "isinstance") (λxs H Q=>∃x T t b,xs=[x,.ty T]/\gL X.K H x t/\PySem.W.kitOne X.K t (.type T)=some b/\Q (.bl b) H):=by
 intro pins s σ H xs us Q I r h
 obtain ⟨x,T,t,b,rfl,ty,e,q⟩:=h
 obtain ⟨u,w',rfl,ru,rw'⟩:=vals2 r
 cases (show w'=Bp T from rw')
 exact pQ I ru ty e λtk=>⟨.bl b,H,I.tok tk,rfl,q⟩
end
def oA (k:Nat)(tc:TT)(te:TE)(τ:St)(Pv:Nat->List V->Hp->Prop)(i:Nat)(x:V)(ys:List V)(H:Hp):Prop :=
 ∀(R1:V->Hp->Prop) (R0:Hp->Prop),(∀y H4,Pv (i+1) (ys++[y]) H4->R1 y H4)->(∀H3,Pv (i+1) ys H3->R0 H3)->tc (τ.set k (some x)) H λb H3=>if b=true then te (τ.set k (some x)) H3 R1 else R0 H3
theorem dR {K:wY}{a:Addr}{xs:List V}{k:Nat}{tc:TT}{te:TE}{τ:St}{H:Hp}{Q:VK}(Pv:Nat->List V->Hp->Prop)(h0:Pv 0 [] H)(hz:xs.length<=xf)
  (hl:∀i ys H,i<=xs.length->Pv i ys H->SqL K H a xs) (hs:∀i x ys H,xs[i]? = some x->ys.length<=i->Pv i ys H->oA k tc te τ Pv i x ys H)
  (hd:∀ys H,ys.length<=xs.length->Pv xs.length ys H->∀l,H l=none->Q (.ref l) (upd H l (.lst ys))) :
  eS (Itl K a) (dD k) tc te τ Q H:=by
 refine ⟨λi m σ ys H=>m=xs.length-i/\i<=xs.length/\(∀x,σ.set k (some x)=τ.set k (some x))/\ys.length<=i/\Pv i ys H,⟨xs.length,by simp,yk _,λ_=>rfl,xg _,h0⟩,?_⟩
 rintro i m σ ys H ⟨rfl,hi,hτ,hy,p⟩
 have q:=hl i ys H hi p
 by_cases hlt:i<xs.length
 ·refine .inr ⟨⟨xs,xs[i],q,by simp[hlt]⟩,λx H' y =>?_⟩
  obtain ⟨e,y⟩:=y
  subst e
  show tc (σ.set k (some x)) _ _
  rw[hτ x]
  have hσ:∀z,(τ.set k (some x)).set k (some z)=τ.set k (some z):=λz=>by rw[AK]
  refine hs i x ys _ (y xs q) hy p _ _ (λy4 H4 p4=>⟨by lia,xs.length-(i+1),by lia,rfl,hlt,hσ,by rw[w9,yv];lia,p4⟩) λH3 p3=>⟨xs.length-(i+1),by lia,rfl,hlt,hσ,by lia,p3⟩
 ·have e:i=xs.length:=by lia
  subst e
  exact .inl ⟨⟨xs,q,xg _⟩,by lia,hd ys H hy p⟩
theorem gP {K:wY}{a:Addr}{xs:List V}{k:Nat}{tc:TT}{te:TE}{τ:St}{H:Hp}{Q:VK}(Pv:Nat->List V->Hp->Prop)(h0:Pv 0 [] H)(hz:xs.length<=xf)
  (hl:∀i ys H,i<=xs.length->Pv i ys H->SqT K H a xs) (hs:∀i x ys H,xs[i]? = some x->ys.length<=i->Pv i ys H->oA k tc te τ Pv i x ys H)
  (hd:∀ys H,ys.length<=xs.length->Pv xs.length ys H->∀l,H l=none->Q (.ref l) (upd H l (.lst ys))) :
  eS (Itt K a) (dD k) tc te τ Q H:=by
 refine ⟨λi m σ ys H=>m=xs.length-i/\i<=xs.length/\(∀x,σ.set k (some x)=τ.set k (some x))/\ys.length<=i/\Pv i ys H,⟨xs.length,by simp,yk _,λ_=>rfl,xg _,h0⟩,?_⟩
 rintro i m σ ys H ⟨rfl,hi,hτ,hy,p⟩
 have q:=hl i ys H hi p
 by_cases hlt:i<xs.length
 ·refine .inr ⟨⟨xs,xs[i],q,by simp[hlt]⟩,λx H' y =>?_⟩
  obtain ⟨e,y⟩:=y
  subst e
  show tc (σ.set k (some x)) _ _
  rw[hτ x]
  have hσ:∀z,(τ.set k (some x)).set k (some z)=τ.set k (some z):=λz=>by rw[AK]
  refine hs i x ys _ (y xs q) hy p _ _ (λy4 H4 p4=>⟨by lia,xs.length-(i+1),by lia,rfl,hlt,hσ,by rw[w9,yv];lia,p4⟩) λH3 p3=>⟨xs.length-(i+1),by lia,rfl,hlt,hσ,by lia,p3⟩
 ·have e:i=xs.length:=by lia
  subst e
  exact .inl ⟨⟨xs,q,xg _⟩,by lia,hd ys H hy p⟩
theorem bH {lo:Int}{n:Nat}{k:Nat}{tc:TT}{te:TE}{τ:St}{H:Hp}{Q:VK}(Pv:Nat->List V->Hp->Prop)(h0:Pv 0 [] H)(hz:n<=xf)
  (hs:∀i ys H,i<n->ys.length<=i->Pv i ys H->oA k tc te τ Pv i (.int (lo+i)) ys H)
  (hd:∀ys H,ys.length<=n->Pv n ys H->∀l,H l=none->Q (.ref l) (upd H l (.lst ys))) :
  eS (Itr lo n) (dD k) tc te τ Q H:=by
 refine ⟨λi m σ ys H=>m=n-i/\i<=n/\(∀x,σ.set k (some x)=τ.set k (some x))/\ys.length<=i/\Pv i ys H,⟨n,by simp,yk _,λ_=>rfl,xg _,h0⟩,?_⟩
 rintro i m σ ys H ⟨rfl,hi,hτ,hy,p⟩
 by_cases hlt:i<n
 ·refine .inr ⟨hlt,λx H' y =>?_⟩
  obtain ⟨e,y⟩:=y
  subst e y
  show tc (σ.set k (some (.int (lo+i)))) _ _
  rw[hτ]
  have hσ:∀z,(τ.set k (some (.int (lo+i)))).set k (some z)=τ.set k (some z):=λz=>by rw[AK]
  refine hs i ys _ hlt hy p _ _ (λy4 H4 p4=>⟨by lia,n-(i+1),by lia,rfl,hlt,hσ,by rw[w9,yv];lia,p4⟩) λH3 p3=>⟨n-(i+1),by lia,rfl,hlt,hσ,by lia,p3⟩
 ·have e:i=n:=by lia
  subst e
  exact .inl ⟨xg _,by lia,hd ys H hy p⟩
structure Cal (P:xA)(w:xQ)(K:wY)(mg:Str->Option xb)(base:Heap)(k:Nat)(x:Str)(ps:List Str)(sp:Sp):Prop where
 ex:∃f fd,bG P w K mg base CX0 k f fd ps sp/\mg x=some (.ref f)/\PySem.W.keepIn K (.ref f)=true/\Binds K fd ps []
theorem ao {X:Cx}{j k:Nat}{x:Str}{ps:List Str}{sp:Sp}{e:Expr}{es:List Expr}{t:TA}{p pos:Pos}(C:Cal X.prog X.w X.K X.mg X.base k x ps sp)(hr:cq j X.A)(hj:k<=j)(hg:Gl X x)(ha:PA X (e :: es) t)
  (hdb:(x == ("__debug__" : Str))=false:=by decide) (he:yO (e :: es) X.env=(false,eval e X.env) :: yO es X.env:=by rfl) (hpl:(C4 pos (yO es X.env)).any (·.1)=false:=by rfl) :
  PE X (.Call (.Name x p) (e :: es) [] pos) (uE sp [] E0 t):=by
 obtain ⟨f,fd,F,m,kp,b⟩:=C.ex
 exact sT F (hr.mono hj) hg m kp b .nil uF ha hdb he hpl
theorem ab {H:Hp}{p:Addr}(h:H p=none)(o:HO):aK H (upd H p o):=λb u q=>by rw[aG (aP q h)];exact q
theorem small {n:Nat}(h:n<=1000):n<=xf:=Ak (pU h)
open PySem PySem.Spec PyProof.Rows
section
variable  {X:Cx}
theorem ig {its:List xb}{bs:List Bool}(h:Vals (bs.map V.bl) its){prog:xA}{w:xQ}{A:yh}:TruthOf prog w A (λi v=>its.toArray[i]? = some v) (λi=>bs.getD i false):=by
 intro i v s Q E hv q
 have l:=h.length
 rw[wW] at l
 have hi:i<its.length:=by
  rw[yi] at hv
  exact (xv.mp hv).1
 have e:(bs.map V.bl)[i]? = some (.bl (bs.getD i false)):=by
  rw[xW,xu,xp (by lia)]
  rfl
 obtain ⟨u,e1,e2⟩:=h.get e
 rw[yi,e1] at hv
 have ev:u=v:=x9 hv
 subst ev
 cases (show u=Value.bool _ from e2)
 exact yV q
theorem all_range (bs:List Bool):((yj bs.length).all λi=>bs.getD i false)=bs.all id:=by
 rw[zT,yU,yU]
 constructor
 ·intro h x hx
  obtain ⟨i,e⟩:=yn.mp hx
  have hi:i<bs.length:=(xv.mp e).1
  have q:=h i (yf.mpr hi)
  rw[xu,e] at q
  exact q
 ·intro h i hi
  have hi':=yf.mp hi
  rw[xu,xp hi']
  exact h _ (zk hi')
theorem dI (hc:X.calm=true):bK X (.builtin "all") (λxs H Q=>∃(p:Addr) (bs:List Bool),xs=[.ref p]/\SqL X.K H p (bs.map V.bl)/\Q (.bl (bs.all id)) H):=by
 intro pins s σ H xs us Q I r h
 obtain ⟨p,bs,rfl,hs,q⟩:=h
 obtain ⟨u,rfl,ru⟩:=vals1 r
 cases (show u=xB p from ru)
 obtain ⟨its,rv,pl,hz⟩:=I.list hs
 have l:=rv.length
 rw[wW] at l
 have hpl:p<s.heap.objs.size:=by obtain ⟨o,_,e,_⟩:=pl;exact xt e
 refine call_all_walk (Ax pl.isList ?_)
 have hd:X.A.in1.handled=none:=I.ok.hd hc
 refine ⟨s.heap.objs.size,_,_,_,_,_,_,rfl,Ej hd s.heap.objs.size p (xF hpl) its.toArray,⟨⟨_,xr _ rfl,rfl,rfl⟩,?_⟩,ig rv,λh' tk k =>?_⟩
 ·exact pl.isList.at λo e=>wX _ e
 ·have e:((yj its.toArray.size).all λi=>bs.getD i false)=bs.all id:=by rw[xc, <- l,all_range]
  rw[e]
  refine ⟨.bl (bs.all id),H,I.kept (t':=tk) (λb o eb=>k b o ?_ (wX _ eb)),rfl,q⟩
  intro hb
  have:b=s.heap.objs.size:=by simpa using hb
  exact absurd (xt eb) (by rw[this];exact yt _)
def eV (K:wY)(H:Hp):Nat->V->V->Prop
 | 0,x,y=>(∃i,x = .int i/\y = .int i)\/∃a,x = .ref a/\y = .ref a
 | n+1,x,y=>(∃i,x = .int i/\y = .int i)\/(∃a,x = .ref a/\y = .ref a)\/∃a b xs ys,x = .ref a/\y = .ref b/\((SqT K H a xs/\SqT K H b ys)\/(SqL K H a xs/\SqL K H b ys))/\Paired (eV K H n) xs ys
theorem gQ {α β:Type}{F:α -> β -> Prop}:∀{l:List α} {m:List β} {i:Nat} {x:α} {y:β},Paired F l m->l[i]? = some x->m[i]? = some y->F x y
 | _,_,0,_,_,.cons h _,e1,e2=>by simp at e1 e2;subst e1 e2;exact h
 | _,_,i+1,_,_,.cons _ t,e1,e2=>gQ (i:=i) t (by simpa using e1) (by simpa using e2)
 | _,_,_,_,_,.nil,e1,_=>by simp at e1
theorem all_true (n:Nat):((yj n).all λ_=>true)=true:=by simp
theorem cQ {K:wY}{H:Hp}{n:Nat}{s:xh}{A:yh}{xs ys:List V}{us vs:List xb}(p:Paired (eV K H n) xs ys)(r1:Vals xs us)(r2:Vals ys vs)
  (ih:∀x y u v,eV K H n x y->RelV x u->RelV y v->zZ A s u v true):∀j (h1:j<us.toArray.size) (h2:j<vs.toArray.size),zZ A s us.toArray[j] vs.toArray[j] true:=λj h1 h2=>by
 rw[xc] at h1 h2
 have l1:=r1.length
 have l2:=r2.length
 have e1:xs[j]? = some xs[j]:=xp (by omega)
 have e2:ys[j]? = some ys[j]:=xp (by omega)
 obtain ⟨u,g1,q1⟩:=r1.get e1
 obtain ⟨v,g2,q2⟩:=r2.get e2
 have f1:us.toArray[j]=u:=by simp[xv] at g1;obtain ⟨_,g⟩:=g1;simpa using g
 have f2:vs.toArray[j]=v:=by simp[xv] at g2;obtain ⟨_,g⟩:=g2;simpa using g
 rw[f1,f2]
 exact ih _ _ u v (gQ p e1 e2) q1 q2
theorem gR {pins:List (Addr×Obj)}{σ:St}{H:Hp}{s:xh}(I:Inv X pins σ H s):∀(n:Nat) (A:yh) (x y:V) (u v:xb),A.units+n<cLine->eV X.K H n x y->RelV x u->RelV y v->zZ A s u v true
 | 0,A,x,y,u,v,_,h,ru,rv=>by
  rcases h with ⟨i,rfl,rfl⟩ | ⟨a,rfl,rfl⟩
  ·obtain ⟨t,rfl⟩:=(show ∃t,u=yJ i t from ru)
   obtain ⟨t',rfl⟩:=(show ∃t,v=yJ i t from rv)
   have:=Ah (A:=A) (s:=s) i t i t'
   rw[beq_self_eq_true] at this
   exact this
  ·cases (show u=xB a from ru)
   cases (show v=xB a from rv)
   exact Am _
 | n+1,A,x,y,u,v,hA,h,ru,rv=>by
  rcases h with ⟨i,rfl,rfl⟩ | ⟨a,rfl,rfl⟩ | ⟨a,b,xs,ys,rfl,rfl,hs,p⟩
  ·obtain ⟨t,rfl⟩:=(show ∃t,u=yJ i t from ru)
   obtain ⟨t',rfl⟩:=(show ∃t,v=yJ i t from rv)
   have:=Ah (A:=A) (s:=s) i t i t'
   rw[beq_self_eq_true] at this
   exact this
  ·cases (show u=xB a from ru)
   cases (show v=xB a from rv)
   exact Am _
  ·cases (show u=xB a from ru)
   cases (show v=xB b from rv)
   by_cases hab:a=b
   ·subst hab;exact Am _
   refine Dj hab ?_
   have ih:∀x y u v,eV X.K H n x y->RelV x u->RelV y v->zZ A.in1 s u v true:=λx y u v h1 h2 h3=>gR I n A.in1 x y u v (by show A.units+1+n<cLine;lia) h1 h2 h3
   have pl:=zu p
   rcases hs with ⟨h1,h2⟩ | ⟨h1,h2⟩
   ·obtain ⟨its,r1,p1,_⟩:=I.tuple h1
    obtain ⟨its2,r2,p2,_⟩:=I.tuple h2
    have q:=DD (e:=λ_=>true) (show s.heap.IsTuple a its.toArray from p1) (show s.heap.IsTuple b its2.toArray from p2) (by lia) (cQ p r1 r2 ih)
    have ez:its.toArray.size=its2.toArray.size:=by rw[xc,xc, <- r1.length, <- r2.length,pl]
    rw[all_true,ez,beq_self_eq_true] at q
    exact q
   ·obtain ⟨its,r1,p1,_⟩:=I.list h1
    obtain ⟨its2,r2,p2,_⟩:=I.list h2
    have q:=Bf (e:=λ_=>true) p1.isList p2.isList (by rw[xc,xc, <- r1.length, <- r2.length,pl]) (by lia) (cQ p r1 r2 ih)
    rw[all_true] at q
    exact q
end
open PySem PySem.Spec PyProof.Rows
def rj (K:wY)(k l:Nat):TG:=v7 K 2 (qT (dD k) (qT (dD l) v5))
def uH (k l:Nat)(tc:TT)(te:TE)(τ:St)(Pv:Nat->List V->Hp->Prop)(i:Nat)(a b:V)(ys:List V)(H:Hp):Prop :=
 ∀(R1:V->Hp->Prop) (R0:Hp->Prop),(∀y H4,Pv (i+1) (ys++[y]) H4->R1 y H4)->(∀H3,Pv (i+1) ys H3->R0 H3)->tc ((τ.set k (some a)).set l (some b)) H λc H3=>if c=true then te ((τ.set k (some a)).set l (some b)) H3 R1 else R0 H3
theorem ng {K:wY}{p:Addr}{ts:List (Addr×V×V)}{k l:Nat}{tc:TT}{te:TE}{τ:St}{H:Hp}{Q:VK}(Pv:Nat->List V->Hp->Prop)(hkl:k≠l)(h0:Pv 0 [] H)(hz:ts.length<=xf)
  (hl:∀i ys H,i<=ts.length->Pv i ys H->SqL K H p (ts.map λt =>.ref t.1)/\∀t∈ts,SqT K H t.1 [t.2.1,t.2.2])
  (hs:∀i t ys H,ts[i]? = some t->ys.length<=i->Pv i ys H->uH k l tc te τ Pv i t.2.1 t.2.2 ys H)
  (hd:∀ys H,ys.length<=ts.length->Pv ts.length ys H->∀r,H r=none->Q (.ref r) (upd H r (.lst ys))):eS (Itl K p) (rj K k l) tc te τ Q H:=by
 refine ⟨λi m σ ys H=>m=ts.length-i/\i<=ts.length/\(∀a b,(σ.set k (some a)).set l (some b)=(τ.set k (some a)).set l (some b))/\ys.length<=i/\Pv i ys H,⟨ts.length,by simp,yk _,λ_ _=>rfl,xg _,h0⟩,?_⟩
 rintro i m σ ys H ⟨rfl,hi,hτ,hy,pv⟩
 obtain ⟨q,qt⟩:=hl i ys H hi pv
 have ln:(ts.map λt:Addr×V×V=>V.ref t.1).length=ts.length:=wW _
 by_cases hlt:i<ts.length
 ·have et:ts[i]? = some ts[i]:=xp hlt
  have em:(ts.map λt:Addr×V×V=>V.ref t.1)[i]? = some (.ref ts[i].1):=by rw[xW,et];rfl
  refine .inr ⟨⟨_,_,q,em⟩,λx H' y =>?_⟩
  obtain ⟨e,y⟩:=y
  subst e
  have ex:=y _ q
  rw[em] at ex
  cases ex
  have st:=qt ts[i] (zk hlt)
  refine ⟨ts[i].1,_,rfl,st,rfl,_,_,rfl,_,_,rfl,rfl,?_⟩
  rw[hτ]
  have hσ:∀a b,((((τ.set k (some ts[i].2.1)).set l (some ts[i].2.2)).set k (some a)).set l (some b))=(τ.set k (some a)).set l (some b):=λa b=>by
   rw[Eu _ _ (zA hkl),AK,AK]
  refine hs i ts[i] ys _ et hy pv _ _ (λy4 H4 p4=>⟨by lia,ts.length-(i+1),by lia,rfl,hlt,hσ,by rw[w9,yv];lia,p4⟩) λH3 p3=>⟨ts.length-(i+1),by lia,rfl,hlt,hσ,by lia,p3⟩
 ·have e:i=ts.length:=by lia
  subst e
  exact .inl ⟨⟨_,q,by rw[ln];exact xg _⟩,by lia,hd ys H hy pv⟩
open PySem PySem.Spec PyProof.Rows
section
variable  {X:Cx}{K:wY}
theorem lS (h:X.K=K:=by rfl):IxR X (wy K):=by subst h;exact bD
theorem fv (h:X.K=K:=by rfl):IxR X (wz K):=by subst h;exact av
theorem eX (h:X.K=K:=by rfl):OpR X (yI .In) (rIn K false):=by subst h;exact gM
theorem fw (h:X.K=K:=by rfl):OpR X (yI .NotIn) (rIn K true):=by subst h;exact bV
end
open PySem PySem.Spec PyProof.Rows
theorem Inv.iW {X:Cx}{pins:List (Addr×Obj)}{σ:St}{H:Hp}{s:xh}{h':Heap}{t':Nat}{ch:List Addr}{T:Addr}{o:HO}(I:Inv X pins σ H s)(f:∀b∈ch,iy X pins H b)
  (k:∀b ob,b∉ch->s.heap.get? b=some ob->h'.get? b=some ob) (th:∀b∈ch,∃ob,h'.get? b=some ob) (hT:s.heap.objs.size<=T) (new:bo X.prog X.w (upd H T o) h' T o):Inv X pins σ (upd H T o) { s with heap:=h',toks:=t' }:=by
 have hn:H T=none:=I.hok.fresh hT
 have nT:∀b ob,s.heap.get? b=some ob->b≠T:=λb ob e=>xF (xH (xt e) hT)
 refine I.step (g':=s.gens) (d':=s.drawn) (ch:=ch) (λb hb =>?_) (λb ob _ _ hc e _=>k b ob hc e) (λb ob _ _ hc e _=>⟨ob.slots,k b ob hc e⟩) (λb ob _ e n=>by rw[aG (nT b ob e)];exact n)
  (λb ob hc e=>⟨ob,k b ob hc e⟩) (λb xs e=>by rw[aG (aP e hn)];exact e) (λb ob u e=>by rw[aG (aP e hn)];exact e) (λb ps e=>⟨#[],by rw[aG (aP e hn),e];simp⟩) (λm hm =>?_) (λb u e =>?_) I.bare
 ·obtain ⟨g0,g1,g2,g3,g4,g5⟩:=f b hb
  exact ⟨g3,g1,g4,g5⟩
 ·obtain ⟨ob,es,ep,ho,r⟩:=hm
  exact ⟨ob,es,ep,k _ ob (λz=>(f _ z).2.1 rfl) ho,r⟩
 ·by_cases hb:b=T
  ·subst hb
   rw[ae] at e
   cases e
   exact new
  ·rw[aG hb] at e
   refine (I.hok b u e).mR (λc v hc q=>k c v ?_ q) (λc q=>by rw[aG (aP q hn)];exact q) λc xs q=>by rw[aG (aP q hn)];exact q
   intro z
   have n0:=(f c z).1
   rcases hc with hc | hc
   ·rw[hc,e] at n0;cases n0
   ·rw[hc] at n0;cases n0
def Ite (K:wY)(a:Addr):It :=
 ⟨λi H=>∃xs v,SqL K H a xs/\xs[i]? = some v,λi H x H'=>∃T v,H T=none/\x = .ref T/\H'=upd H T (.tup [.int i,v])/\∀xs,SqL K H a xs->xs[i]? = some v,λi H=>∃xs,SqL K H a xs/\xs.length<=i⟩
theorem pV {P:xA}{w:xQ}{K:wY}{elts:List Expr}{k:Nat}{pos:Pos}(a e it:Addr)(hne:e≠it):Turn P w K (.Tuple elts k pos) (Ite K a) [e,it] e (λi h=>(∃old,IsEnum h e it i old)/\h.IsListIter it a i) where
 mem:=by simp
 obj:=λi h ⟨⟨old,h1⟩,h2⟩ b hb=>by
  rcases xK.mp hb with q | q
  ·subst q
   exact ⟨_,h1,λv z=>nomatch z⟩
  ·have q':b=it:=by simpa using q
   subst q'
   obtain ⟨o,ho,_,hd⟩:=h2
   exact ⟨o,ho,λv z=>by rw[hd] at z;cases z⟩
 keep:=λi h h' ⟨⟨old,h1⟩,h2⟩ kp=>⟨⟨old,kp e (by simp) _ h1⟩,h2.at λo x=>kp it (by simp) o x⟩
 item:=λX eP eW eK hcalm i pins s σ H E I f ⟨⟨old,h1⟩,h2⟩ go=>by
  subst eP eW eK
  obtain ⟨xs,v,hs,hv⟩:=go
  obtain ⟨its,r,pl,hz⟩:=I.list hs
  obtain ⟨u,eu,ru⟩:=r.get hv
  refine wpAny_pyNext_enum_item h1 h2 pl.isList (x:=u) (by rw[yi];exact eu) hne λh' o1 o2 o3 o4 kp =>?_
  refine ⟨_,rfl,?_⟩
  refine BH o1 λh2' e2 sb =>?_
  have eT:e≠s.heap.objs.size:=xF (xt h1)
  have kp2:∀b ob,b∉[e,it]->s.heap.get? b=some ob->h2'.get? b=some ob:=λb ob hb eb=>by
   have n1:b≠e:=λz=>hb (by simp[z])
   have n2:b≠it:=λz=>hb (by simp[z])
   rw[sb.2 b n1]
   exact kp b ob n1 n2 eb
  have li:h2'.IsListIter it a (i+1):=o2.at λob eb=>by rw[sb.2 it (zA hne)];exact eb
  have tp:h2'.get? s.heap.objs.size=some { cls :=.type "tuple",data :=.seq #[.int i s.toks,u] }:=by rw[sb.2 _ (zA eT)];exact o3
  refine ⟨.ref s.heap.objs.size,upd H s.heap.objs.size (.tup [.int i,v]),I.iW (ch:=[e,it]) f kp2 (λb hb =>?_) (xg _) ?_,rfl,⟨s.heap.objs.size,v,I.hok.fresh (xg _),rfl,rfl,λys hy =>?_⟩,⟨⟨_,e2⟩,li⟩,λb hb =>?_⟩
  ·rcases xK.mp hb with q | q
   ·subst q;exact ⟨_,e2⟩
   ·have q':b=it:=by simpa using q
    subst q'
    obtain ⟨ob,ho,_⟩:=li
    exact ⟨ob,ho⟩
  ·refine ⟨(by show 2<=xf;decide),[.int i s.toks,u],.cons ⟨_,rfl⟩ (.cons ru .nil),_,tp,⟨rfl,rfl⟩,_,rfl⟩
  ·rw[I.iN hy hs];exact hv
  ·have ne:b≠s.heap.objs.size:=by
    rcases xK.mp hb with q | q
    ·rw[q];exact eT
    ·have q':b=it:=by simpa using q
     rw[q']
     obtain ⟨ob,ho,_⟩:=h2
     exact xF (xt ho)
   rw[aG ne]
   exact (f b hb).1
 done:=λX eP eW eK hcalm i pins s σ H E I f ⟨⟨old,h1⟩,h2⟩ stop=>by
  subst eP eW eK
  obtain ⟨xs,hs,hl⟩:=stop
  obtain ⟨its,r,pl,hz⟩:=I.list hs
  have l:=r.length
  refine wpAny_pyNext_enum_end (I.ok.hd hcalm) h1 h2 pl.isList (by rw[yi];exact BP.mpr (by lia)) λh' ex=>⟨rfl,?_⟩
  obtain ⟨g0,g1,g2,g3,g4,g5⟩:=f it (by simp)
  exact I.turned (it:=it) (h':=h') (t':=s.toks) (λb o ne eb=>ex b o ne eb) g0 g1 g3 g4 g5
 self:=λA i s Q E ⟨⟨old,h1⟩,_⟩ q=>by
  refine B9 ⟨_,h1,rfl⟩ An (yr An ⟨_,h1,rfl⟩ Cr ?_ (Cb _))
  show xM _ _ (ret (.ref e)) _ _ s
  exact xn ⟨_,rfl, "enumerate",_,⟨_,h1,rfl⟩,Ao.lookup,q⟩
open PySem PySem.Spec PyProof.Rows
open PySem.AutoSeq1 (wpAny_loadPart')
section
variable  {prog:xA}{w:xQ}{A:yh}{E:xb->xh->Prop}{s:xh}
theorem nh {it t:Addr}{i:Nat}{items:Array xb}{x:xb}{Q:xb->xh->Prop}(hi:s.heap.IsTupleIter it t i)(hl:s.heap.IsTuple t items)(hx:items[i]? = some x)
  (q:∀h',h'.IsTupleIter it t (i+1)->Heap.SameBut it s.heap h'->Q x { s with heap:=h' }):xM (xT prog w) A (Builtin.SmallTypes.nextOf (.ref it)) Q E s:=by
 obtain ⟨o,eo,oc,od⟩:=id hi
 obtain ⟨ol,el,_,nl,dl⟩:=hl
 unfold Builtin.SmallTypes.nextOf
 refine wZ (yM (name:=Str.ofString "__next__") hi.typeIs zM (yr zM hi.typeIs Bs ?_ (Bn _)))
 show xM _ _ (field (.ref it) 0 >>= _) _ _ s;refine wZ (zR eo od (x :=.ref t) rfl ?_)
 show xM _ _ (if (xB t == zc)=true then _ else _) _ _ s;rw[if_neg (show ¬ ((xB t == zc)=true) from xw)]
 show xM _ _ (field (.ref it) 1 >>= _) _ _ s;refine wZ (zR eo od (x :=.int i 0) rfl ?_)
 show xM _ _ (seqItems? (.ref t) >>= _) _ _ s;refine wZ (Ba el dl ?_)
 simp only[A8,hx];refine wZ (wpAny_setField eo od (by simp) (xn ⟨x,rfl,xn (q _ ?_ (AG ..))⟩))
 exact ⟨_,yF _ eo (Obj.isFreed_of_fields (Dl od _)),(Obj.cls_mapFields ..).trans oc,by rw[Dl od];simp[Er]⟩
theorem eZ {it t:Addr}{i:Nat}{items:Array xb}{Q:xb->xh->Prop}(hh:A.handled=none)(hi:s.heap.IsTupleIter it t i)(hl:s.heap.IsTuple t items)(hx:items[i]? = none)
  (q:∀h' e,Heap.ExtBut it s.heap h'->(∃o,h'.get? e=some o/\o.cls = .type "StopIteration")->E (.ref e) { s with heap:=h' }):xM (xT prog w) A (Builtin.SmallTypes.nextOf (.ref it)) Q E s:=by
 obtain ⟨o,eo,oc,od⟩:=id hi
 obtain ⟨ol,el,_,nl,dl⟩:=hl
 unfold Builtin.SmallTypes.nextOf
 refine wZ (yM (name:=Str.ofString "__next__") hi.typeIs zM (yr zM hi.typeIs Bs ?_ (Bn _)))
 show xM _ _ (field (.ref it) 0 >>= _) _ _ s;refine wZ (zR eo od (x :=.ref t) rfl ?_)
 show xM _ _ (if (xB t == zc)=true then _ else _) _ _ s;rw[if_neg (show ¬ ((xB t == zc)=true) from xw)]
 show xM _ _ (field (.ref it) 1 >>= _) _ _ s;refine wZ (zR eo od (x :=.int i 0) rfl ?_)
 show xM _ _ (seqItems? (.ref t) >>= _) _ _ s;refine wZ (Ba el dl ?_)
 simp only[A8,hx];refine wZ (Ay (wZ (wpAny_setField eo od (by simp) ?_)))
 show xM _ _ (newExc (.type "StopIteration") [] >>= _) _ _ _;refine wZ ?_
 simp only[newExc,newTuple];refine wZ (yl ?_ (by size_fits))
 refine wZ (m:=firstArgMember _ _) (D8 (a:=zc) (by first | rfl | (simp only[firstArgMember];rfl)) ?_);refine yl ?_ (by size_fits)
 simp only[raiseNew];refine wZ (wpAny_handled ?_)
 first | (rw[show A.in1.handled=none from hh]) | (rw[hh])
 refine wZ (xn (wpAny_throw ?_));exact q _ _ (((AG ..).extBut.push _).push _) ⟨_,xr _ rfl,rfl⟩
theorem pW (hh:A.handled=none)(it l:Addr)(hne:l≠it)(items:Array xb) :
  Draws prog w A it [it,l] items.size (λi v=>items[i]? = some v) (λi h=>h.IsTupleIter it l i/\h.IsTuple l items) where
 live:=λ_ _ st=>by obtain ⟨o,ho,_⟩:=st.1;exact ⟨o,ho⟩
 frame:=λ_ _ _ st hk=>⟨st.1.at λo e=>hk it (by simp) o e,by obtain ⟨o,e,r⟩:=st.2;exact ⟨o,hk l (by simp) o e,r⟩⟩
 item:=λi s Q E hi st hQ=>by
  refine nh st.1 st.2 (x:=items[i]) (by simp[hi]) λh' hit' hs' =>?_
  obtain ⟨o,e,r⟩:=st.2
  exact hQ _ h' s.toks (by simp[hi]) ⟨hit',o,by rw[hs'.2 l hne];exact e,r⟩ hs'
 done:=λs Q E st hE=>eZ hh st.1 st.2 (by simp) hE
theorem kK (l:Addr)(items:Array xb)(n:Nat)(dct:Option Addr)(sl:Array (Option xb)) :
  Meets (Builtin.«enumerate.__new__» ⟨[.type "enumerate",.ref l],[]⟩) (λ_ R s=>s.heap.get? l=some { cls :=.type "tuple",dict:=dct,data :=.seq items n,slots:=sl } ∧
   R (.ok (.ret (.ref (s.heap.push { cls :=.type "tuple_iterator",data :=.fields #[.ref l,.int 0 0] }).objs.size)))
    { s with heap:=(s.heap.push { cls :=.type "tuple_iterator",data :=.fields #[.ref l,.int 0 0] }).push { cls :=.type "enumerate",data :=.fields #[.none,.bool false,.ref s.heap.objs.size,Er 0,.none,.none] } }) :=
 .of_wp λprog w A R s h=>by
  obtain ⟨hp,g,d,tk,os⟩:=s;obtain ⟨hl,h⟩:=h
  have hsub:=sub_enumerate
  have hT:Heap.IsTuple (Shared.heap ⟨hp,g,d,tk,os⟩) l items:=⟨_,hl,rfl,n,rfl⟩
  wp_walk using wpAny_loadPart' hl
  refine wpAny_stack_any λst=>xn ?_
  split
  ·rename_i c _ _ _ _ _
   cases (c == Bp "enumerate") <;> (wp_walk using wpAny_loadPart' hl,zi hT;exact ⟨_,rfl,h⟩)
  ·wp_walk using wpAny_loadPart' hl,zi hT;exact ⟨_,rfl,h⟩
theorem jC {l:Addr}{items:Array xb}{Q:xb->xh->Prop}(hL:s.heap.IsTuple l items)
  (h:∀h',IsEnum h' (s.heap.objs.size+1) s.heap.objs.size 0 .none->h'.IsTupleIter s.heap.objs.size l 0->h'.objs.size=s.heap.objs.size+2->(∀b o,s.heap.get? b=some o->h'.get? b=some o)->Q (.ref (s.heap.objs.size+1)) { s with heap:=h' }) :
  xM (xT prog w) A (call (.type "enumerate") [.ref l]) Q E s:=by
 obtain ⟨⟨c,dct,dt,sl⟩,hl,hc,n,hd⟩:=hL
 replace hc:c = .type "tuple" := hc
 replace hd:dt = .seq items n:=hd
 subst hc hd
 refine callType_new F.called_enumerate (by decide) (F.typeCall_enumerate_1 _) (F.newCall_enumerate_1 _) (λobj=>F.args_object_init_2 obj _) F.entry_enumerate_new (kK l items n dct sl) ⟨hl,?_⟩
 have hz:(s.heap.push { cls :=.type "tuple_iterator",data :=.fields #[.ref l,.int 0 0] }).objs.size=s.heap.objs.size+1:=zG ..
 show _/\_
 rw[hz]
 have he:IsEnum ((s.heap.push { cls :=.type "tuple_iterator",data :=.fields #[.ref l,.int 0 0] }).push { cls :=.type "enumerate",data :=.fields #[.none,.bool false,.ref s.heap.objs.size,Er 0,.none,.none] }) (s.heap.objs.size+1) s.heap.objs.size 0 .none:=by
  have:=xr (s.heap.push { cls :=.type "tuple_iterator",data :=.fields #[.ref l,.int 0 0] }) (o:={ cls :=.type "enumerate",data :=.fields #[.none,.bool false,.ref s.heap.objs.size,Er 0,.none,.none] }) rfl
  rw[hz] at this;exact this
 exact ⟨⟨_,he,rfl⟩,h _ he ⟨_,wX _ (xr _ rfl),rfl,rfl⟩ (by rw[zG,hz]) λb o x=>wX _ (wX _ x)⟩
end
theorem dS {prog:xA}{w:xQ}{A:yh}{E:xb->xh->Prop}{s:xh}{e it t:Addr}{i:Nat}{items:Array xb}{old:xb}{Q:Option xb->xh->Prop}(hh:A.in1.handled=none)(he:IsEnum s.heap e it i old)(hi:s.heap.IsTupleIter it t i)
  (hl:s.heap.IsTuple t items) (hx:items[i]? = none) (q:∀h',Heap.ExtBut it s.heap h'->Q none { s with heap:=h' }):xM (xT prog w) A (pyNext (.ref e)) Q E s:=by
 have hT:s.TypeIs (.ref e) "enumerate" :=⟨_,he,rfl⟩
 unfold pyNext
 refine wZ (Ci (yM (name:=Str.ofString "__next__") hT Ao (yr Ao hT F.entry_enumerate_next ?_ (F.args_enumerate_next_1 _))))
 show xM _ _ (field (.ref e) 2 >>= _) _ _ _;refine wZ (zR he rfl (x :=.ref it) rfl ?_)
 refine wZ (eZ hh hi hl hx λh' x he' hx' =>?_)
 obtain ⟨o,ho,hc⟩:=hx'
 refine wZ (wpAny_isInstance (T := "StopIteration") (b:=true) ⟨o,ho,hc⟩ isSubtype_stop ?_);exact xn (q _ he')
def ItE (K:wY)(a:Addr):It :=
 ⟨λi H=>∃xs v,SqT K H a xs/\xs[i]? = some v,λi H x H'=>∃T v,H T=none/\x = .ref T/\H'=upd H T (.tup [.int i,v])/\∀xs,SqT K H a xs->xs[i]? = some v,λi H=>∃xs,SqT K H a xs/\xs.length<=i⟩
theorem ni {P:xA}{w:xQ}{K:wY}{elts:List Expr}{k:Nat}{pos:Pos}(a e it:Addr)(hne:e≠it)(hai:a≠it)(hae:a≠e):Turn P w K (.Tuple elts k pos) (ItE K a) [e,it] e (λi h=>(∃old,IsEnum h e it i old)/\h.IsTupleIter it a i) where
 mem:=by simp
 obj:=λi h ⟨⟨old,h1⟩,h2⟩ b hb=>by
  rcases xK.mp hb with q | q
  ·subst q
   exact ⟨_,h1,λv z=>nomatch z⟩
  ·have q':b=it:=by simpa using q
   subst q'
   obtain ⟨o,ho,_,hd⟩:=h2
   exact ⟨o,ho,λv z=>by rw[hd] at z;cases z⟩
 keep:=λi h h' ⟨⟨old,h1⟩,h2⟩ kp=>⟨⟨old,kp e (by simp) _ h1⟩,h2.at λo x=>kp it (by simp) o x⟩
 item:=λX eP eW eK hcalm i pins s σ H E I f ⟨⟨old,h1⟩,h2⟩ go=>by
  subst eP eW eK
  obtain ⟨xs,v,hs,hv⟩:=go
  obtain ⟨its,r,pl,hz⟩:=I.tuple hs
  obtain ⟨u,eu,ru⟩:=r.get hv
  have hi:i<its.toArray.size:=by rw[xc];exact (xv.mp eu).1
  have hd:X.A.in1.handled=none:=I.ok.hd hcalm
  refine wpAny_pyNext_enum_itemD (pW hd it a hai its.toArray) h1 ⟨h2,(show s.heap.IsTuple a its.toArray from pl)⟩ hi hne (by simp[hne,zA hae]) λx h' tk px o1 o2 o3 o4 kp =>?_
  rw[yi,eu] at px
  have px':u=x:=x9 px
  subst px'
  refine ⟨_,rfl,?_⟩
  refine BH o1 λh2' e2 sb =>?_
  have eT:e≠s.heap.objs.size:=xF (xt h1)
  have kp2:∀b ob,b∉[e,it]->s.heap.get? b=some ob->h2'.get? b=some ob:=λb ob hb eb=>by
   have n1:b≠e:=λz=>hb (by simp[z])
   have n2:b≠it:=λz=>hb (by simp[z])
   rw[sb.2 b n1]
   exact kp b ob n1 n2 eb
  have li:h2'.IsTupleIter it a (i+1):=o2.1.at λob eb=>by rw[sb.2 it (zA hne)];exact eb
  have tp:h2'.get? s.heap.objs.size=some { cls :=.type "tuple",data :=.seq #[.int i tk,u] }:=by rw[sb.2 _ (zA eT)];exact o3
  refine ⟨.ref s.heap.objs.size,upd H s.heap.objs.size (.tup [.int i,v]),I.iW (ch:=[e,it]) f kp2 (λb hb =>?_) (xg _) ?_,rfl,⟨s.heap.objs.size,v,I.hok.fresh (xg _),rfl,rfl,λys hy =>?_⟩,⟨⟨_,e2⟩,li⟩,λb hb =>?_⟩
  ·rcases xK.mp hb with q | q
   ·subst q;exact ⟨_,e2⟩
   ·have q':b=it:=by simpa using q
    subst q'
    obtain ⟨ob,ho,_⟩:=li
    exact ⟨ob,ho⟩
  ·refine ⟨(by show 2<=xf;decide),[.int i tk,u],.cons ⟨_,rfl⟩ (.cons ru .nil),_,tp,⟨rfl,rfl⟩,_,rfl⟩
  ·rw[I.gI hy hs];exact hv
  ·have ne:b≠s.heap.objs.size:=by
    rcases xK.mp hb with q | q
    ·rw[q];exact eT
    ·have q':b=it:=by simpa using q
     rw[q']
     obtain ⟨ob,ho,_⟩:=h2
     exact xF (xt ho)
   rw[aG ne]
   exact (f b hb).1
 done:=λX eP eW eK hcalm i pins s σ H E I f ⟨⟨old,h1⟩,h2⟩ stop=>by
  subst eP eW eK
  obtain ⟨xs,hs,hl⟩:=stop
  obtain ⟨its,r,pl,hz⟩:=I.tuple hs
  have l:=r.length
  have hd:X.A.in1.handled=none:=I.ok.hd hcalm
  refine dS (A:=X.A) hd h1 h2 (show s.heap.IsTuple a its.toArray from pl) (by rw[yi];exact BP.mpr (by lia)) λh' ex=>⟨rfl,?_⟩
  obtain ⟨g0,g1,g2,g3,g4,g5⟩:=f it (by simp)
  exact I.turned (it:=it) (h':=h') (t':=s.toks) (λb o ne eb=>ex b o ne eb) g0 g1 g3 g4 g5
 self:=λA i s Q E ⟨⟨old,h1⟩,_⟩ q=>by
  refine B9 ⟨_,h1,rfl⟩ An (yr An ⟨_,h1,rfl⟩ Cr ?_ (Cb _))
  show xM _ _ (ret (.ref e)) _ _ s
  exact xn ⟨_,rfl, "enumerate",_,⟨_,h1,rfl⟩,Ao.lookup,q⟩
open PySem PySem.Spec PyProof.Rows
def wH (K:wY)(ta:TA):TI:=λσ H R=>ta σ H λvs H1=>∃a,vs=[.ref a]/\(((∃xs,SqL K H1 a xs)/\R (Ite K a) H1)\/((∃xs,SqT K H1 a xs)/\R (ItE K a) H1))
section
variable  {X:Cx}
theorem tE {a:Expr}{ta:TA}{p pos pos':Pos}{elts:List Expr}{k:Nat}(hg:Gl X "enumerate")(hm:X.mg "enumerate" = none)(ha:PA X [a] ta)(hs:yO [a] X.env=[(false,eval a X.env)]:=by rfl) :
  PI X (.Tuple elts k pos') (.Call (.Name "enumerate" p) [a] [] pos) (wH X.K ta):=by
 intro pins s σ H R I h
 refine Call_ (fN I hg hm boot_enumerate (zd (thn (ha pos pins s σ H _ I h) λus s1 ⟨vs,H1,I1,r1,q1⟩ =>?_) hs rfl))
 obtain ⟨l,e,q1⟩:=q1
 subst e
 obtain ⟨u,rfl,ru⟩:=vals1 r1
 cases (show u=xB l from ru)
 have fp:∀b∈[s1.heap.objs.size+1,s1.heap.objs.size],iy X pins H1 b:=λb hb=>by
  have ge:s1.heap.objs.size<=b:=by
   rcases xK.mp hb with q | q
   ·rw[q];exact Br _
   ·have q':b=s1.heap.objs.size:=by simpa using q
    rw[q'];exact xg _
  exact I1.pM ge (I1.hok.fresh ge)
 have ne:s1.heap.objs.size+1≠s1.heap.objs.size:=zO (y6 _)
 rcases q1 with ⟨⟨xs,hq⟩,q⟩ | ⟨⟨xs,hq⟩,q⟩
 ·obtain ⟨its,rv,pl,hz⟩:=I1.list hq
  refine call_enumerate_list pl.isList λh' he li _ kp =>?_
  have T:=pV (P:=X.prog) (w:=X.w) (K:=X.K) (elts:=elts) (k:=k) (pos:=pos') l _ _ ne
  refine T.self _ 0 _ _ _ ⟨⟨_,he⟩,li⟩ ?_
  exact ⟨_,_,_,_,H1,rfl,I1.kept (t':=s1.toks) kp,T,⟨⟨_,he⟩,li⟩,fp,q⟩
 ·obtain ⟨its,rv,pl,hz⟩:=I1.tuple hq
  have lt:l<s1.heap.objs.size:=by obtain ⟨o,e,_⟩:=pl;exact xt e
  refine jC (show s1.heap.IsTuple l its.toArray from pl) λh' he li _ kp =>?_
  have T:=ni (P:=X.prog) (w:=X.w) (K:=X.K) (elts:=elts) (k:=k) (pos:=pos') l _ _ ne (xF lt) (xF (yB lt))
  refine T.self _ 0 _ _ _ ⟨⟨_,he⟩,li⟩ ?_
  exact ⟨_,_,_,_,H1,rfl,I1.kept (t':=s1.toks) kp,T,⟨⟨_,he⟩,li⟩,fp,q⟩
end
def vn (J:It)(g:TG)(tb:TS)(D:Ends)(σ:St)(H:Hp):Prop:=∃W:Nat->Nat->St->Hp->Prop,(∃m,W 0 m σ H)/\∀i m σ H,W i m σ H →
 (J.stop i H/\D.nx σ H)\/(J.go i H/\∃N:St->Hp->Prop,(∀σ' H',N σ' H'->∃m',m'<m/\W (i+1) m' σ' H')/\∀x H',J.yld i H x H'->g x σ H' λσ2 H2=>tb { D with nx:=N,ct:=N,bk:=D.nx } σ2 H2)
end L2
namespace Srt
open PySem PyProof.Rows
def gal:Bool->xD->Array xD->Nat->Nat->Nat->StateT xP Sem (Option Nat):=sortPriv% PySem.Builtin.gallop
def mLo:Array xD->Array xD->StateT xP Sem (Array xD):=sortPriv% PySem.Builtin.mergeLo
def mHi:Array xD->Array xD->StateT xP Sem (Array xD):=sortPriv% PySem.Builtin.mergeHi
def mAt:Nat->StateT xP Sem Bool:=sortPriv% PySem.Builtin.mergeAt
def uI:StateT xP Sem Unit:=sortPriv% PySem.Builtin.sortRuns
def vo:Nat->Nat->StateT xP Sem (Option Nat):=sortPriv% PySem.Builtin.countRun
def rk:Nat->Nat->Nat->StateT xP Sem Bool:=sortPriv% PySem.Builtin.binarySort
theorem vp (lf:Bool)(ky:xD)(ar:Array xD)(bs n ht:Nat):gal lf ky ar bs n ht=(do
    let far (i:Nat):StateT xP Sem (Option Bool):=do
      let z ← elem' ar (bs+i)
      if lf then lt' z ky else return (← lt' ky z).map (!·)
    let mut la:=0;let mut of:=1
    let mut lo:=0;let mut hi:=0
    let some rt ← far ht | return none
    if rt then
      let mx:=n-ht
      for _ in [0:n] do
        if of≥mx then break
        let some mo ← far (ht+of)
          | return none
        if !mo then break
        la:=of;of:=2*of+1
      lo:=ht+la+1;hi:=ht+min of mx
    else
      let mx:=ht+1
      for _ in [0:n] do
        if of≥mx then break
        let some fd ← far (ht-of)
          | return none
        if fd then break
        la:=of;of:=2*of+1
      lo:=ht+1-min of mx;hi:=ht-la
    for _ in [0:n] do
      if lo≥hi then break
      let md:=lo+(hi-lo)/2
      let some mo ← far md | return none
      if mo then lo:=md+1 else hi:=md
    return some hi):=rfl
section
variable  {prog:xA}{w:xQ}{A:yh}{E:xb->xh->Prop}{s:xh}
theorem rp {lf:Bool}{ky:xD}{ar:Array xD}{bs n ht:Nat}{st:xP}{Q:Option Nat->xP->Prop}(p:Nat->Bool)
    (hf:∀i,i<n->∀(Q:Option Bool->xP->Prop),Q (some (p i)) st->wpS (xT prog w) A E s (do let z ← elem' ar (bs+i);if lf then lt' z ky else return (← lt' ky z).map (!·)) Q st)
    (hp:∀i j,i<=j->j<n->p j=true->p i=true) (hh:ht<n)
    (h:∀k,k<=n->(∀i,i<k->p i=true)->(∀i,k<=i->i<n->p i=false)->Q (some k) st):wpS (xT prog w) A E s (gal lf ky ar bs n ht) Q st:=by
  rw[vp]
  dsimp only
  refine xC (hf ht hh _ ?_)
  dsimp only
  cases hr:p ht with
  | true =>
    rw[if_pos rfl]
    refine xC (zv (yH (I:=λx c st'=>st=st'/\∃la of,c=(none,la,of)/\la<of/\x+1<=of/\ht+la<n/\p (ht+la)=true)
      (Q:=λc st'=>st=st'/\∃la of,c=(none,la,of)/\la<of/\ht+la<n/\p (ht+la)=true/\(n-ht<=of\/(ht+of<n/\p (ht+of)=false))) ?step ?fin ⟨rfl,0,1,rfl,by lia,by lia,by lia,by simpa using hr⟩) ?post)
    case fin =>
      rintro c st' ⟨rfl,la,of,rfl,b1,b2,b3,b4⟩
      exact ⟨rfl,la,of,rfl,b1,b3,b4,.inl (by lia)⟩
    case step =>
      rintro x c st' _ hx ⟨rfl,la,of,rfl,b1,b2,b3,b4⟩
      dsimp only
      by_cases hge:of≥n-ht
      · rw[if_pos hge]
        exact xG ⟨rfl,la,of,rfl,b1,b3,b4,.inl hge⟩
      · rw[if_neg hge]
        refine xC (hf _ (by lia) _ ?_)
        dsimp only
        cases hm:p (ht+of) with
        | true =>
          simp only[Cc,ze,if_false]
          exact xG ⟨rfl,of,2*of+1,rfl,by lia,by lia,by lia,hm⟩
        | false =>
          simp only[Bool.not_false,if_true]
          exact xG ⟨rfl,la,of,rfl,b1,b3,b4,.inr ⟨by lia,hm⟩⟩
    case post =>
      rintro c st' ⟨rfl,la,of,rfl,b1,b3,b4,b5⟩
      have h1:(ht+la+1)<=(ht+min of (n-ht)):=by lia
      have h2:(ht+min of (n-ht))<=n:=by lia
      have h3:∀i,i<(ht+la+1)->p i=true:=λi hi=>hp i (ht+la) (by lia) b3 b4
      have h4:∀i,(ht+min of (n-ht))<=i->i<n->p i=false:=λi hi hn=>by
        rcases b5 with b5 | ⟨b5,b6⟩
        · lia
        · cases hpi:p i with
          | false=>rfl
          | true=>rw[hp (ht+of) i (by lia) hn hpi] at b6;cases b6
      dsimp only
      refine xC (zv (yH (I:=λx c st'=>st=st'/\∃lo hi,c=(none,lo,hi)/\lo<=hi/\hi<=n/\hi-lo<=n-x/\(∀i,i<lo->p i=true)/\(∀i,hi<=i->i<n->p i=false))
        (Q:=λc st'=>st=st'/\∃k,c=(none,k,k)/\k<=n/\(∀i,i<k->p i=true)/\(∀i,k<=i->i<n->p i=false)) ?step ?fin ⟨rfl,(ht+la+1),(ht+min of (n-ht)),rfl,h1,h2,by lia,h3,h4⟩) ?post)
      case fin =>
        rintro c st' ⟨rfl,lo,hi,rfl,a1,a2,a3,a4,a5⟩
        have e:lo=hi:=by lia
        subst e
        exact ⟨rfl,lo,rfl,a2,a4,a5⟩
      case post =>
        rintro c st' ⟨rfl,k,rfl,a2,a4,a5⟩
        exact xG (h k a2 a4 a5)
      case step =>
        rintro x c st' _ hx ⟨rfl,lo,hi,rfl,a1,a2,a3,a4,a5⟩
        dsimp only
        by_cases hge:lo≥hi
        · rw[if_pos hge]
          have e:lo=hi:=by lia
          subst e
          exact xG ⟨rfl,lo,rfl,a2,a4,a5⟩
        · rw[if_neg hge]
          refine xC (hf _ (by lia) _ ?_)
          dsimp only
          cases hm:p (lo+(hi-lo)/2) with
          | true =>
            rw[if_pos rfl]
            exact xG ⟨rfl,_,_,rfl,by lia,a2,by lia,λi hi'=>hp i _ (by lia) (by lia) hm,a5⟩
          | false =>
            rw[if_neg (by simp)]
            refine xG ⟨rfl,_,_,rfl,by lia,by lia,by lia,a4,λi hi' hn =>?_⟩
            cases hpi:p i with
            | false=>rfl
            | true=>rw[hp _ i hi' hn hpi] at hm;cases hm
  | false =>
    rw[if_neg (by simp)]
    refine xC (zv (yH (I:=λx c st'=>st=st'/\∃la of,c=(none,la,of)/\la<of/\x+1<=of/\la<=ht/\p (ht-la)=false)
      (Q:=λc st'=>st=st'/\∃la of,c=(none,la,of)/\la<of/\la<=ht/\p (ht-la)=false/\(ht+1<=of\/(of<=ht/\p (ht-of)=true))) ?step ?fin ⟨rfl,0,1,rfl,by lia,by lia,by lia,by simpa using hr⟩) ?post)
    case fin =>
      rintro c st' ⟨rfl,la,of,rfl,b1,b2,b3,b4⟩
      exact ⟨rfl,la,of,rfl,b1,b3,b4,.inl (by lia)⟩
    case step =>
      rintro x c st' _ hx ⟨rfl,la,of,rfl,b1,b2,b3,b4⟩
      dsimp only
      by_cases hge:of≥ht+1
      · rw[if_pos hge]
        exact xG ⟨rfl,la,of,rfl,b1,b3,b4,.inl hge⟩
      · rw[if_neg hge]
        refine xC (hf _ (by lia) _ ?_)
        dsimp only
        cases hm:p (ht-of) with
        | true =>
          rw[if_pos rfl]
          exact xG ⟨rfl,la,of,rfl,b1,b3,b4,.inr ⟨by lia,hm⟩⟩
        | false =>
          rw[if_neg (by simp)]
          exact xG ⟨rfl,of,2*of+1,rfl,by lia,by lia,by lia,hm⟩
    case post =>
      rintro c st' ⟨rfl,la,of,rfl,b1,b3,b4,b5⟩
      have h1:(ht+1-min of (ht+1))<=(ht-la):=by lia
      have h2:(ht-la)<=n:=by lia
      have h3:∀i,i<(ht+1-min of (ht+1))->p i=true:=λi hi=>by
        rcases b5 with b5 | ⟨b5,b6⟩
        · lia
        · exact hp i (ht-of) (by lia) (by lia) b6
      have h4:∀i,(ht-la)<=i->i<n->p i=false:=λi hi hn=>by
        cases hpi:p i with
        | false=>rfl
        | true=>rw[hp (ht-la) i hi hn hpi] at b4;cases b4
      dsimp only
      refine xC (zv (yH (I:=λx c st'=>st=st'/\∃lo hi,c=(none,lo,hi)/\lo<=hi/\hi<=n/\hi-lo<=n-x/\(∀i,i<lo->p i=true)/\(∀i,hi<=i->i<n->p i=false))
        (Q:=λc st'=>st=st'/\∃k,c=(none,k,k)/\k<=n/\(∀i,i<k->p i=true)/\(∀i,k<=i->i<n->p i=false)) ?step ?fin ⟨rfl,(ht+1-min of (ht+1)),(ht-la),rfl,h1,h2,by lia,h3,h4⟩) ?post)
      case fin =>
        rintro c st' ⟨rfl,lo,hi,rfl,a1,a2,a3,a4,a5⟩
        have e:lo=hi:=by lia
        subst e
        exact ⟨rfl,lo,rfl,a2,a4,a5⟩
      case post =>
        rintro c st' ⟨rfl,k,rfl,a2,a4,a5⟩
        exact xG (h k a2 a4 a5)
      case step =>
        rintro x c st' _ hx ⟨rfl,lo,hi,rfl,a1,a2,a3,a4,a5⟩
        dsimp only
        by_cases hge:lo≥hi
        · rw[if_pos hge]
          have e:lo=hi:=by lia
          subst e
          exact xG ⟨rfl,lo,rfl,a2,a4,a5⟩
        · rw[if_neg hge]
          refine xC (hf _ (by lia) _ ?_)
          dsimp only
          cases hm:p (lo+(hi-lo)/2) with
          | true =>
            rw[if_pos rfl]
            exact xG ⟨rfl,_,_,rfl,by lia,a2,by lia,λi hi'=>hp i _ (by lia) (by lia) hm,a5⟩
          | false =>
            rw[if_neg (by simp)]
            refine xG ⟨rfl,_,_,rfl,by lia,by lia,by lia,a4,λi hi' hn =>?_⟩
            cases hpi:p i with
            | false=>rfl
            | true=>rw[hp _ i hi' hn hpi] at hm;cases hm
end
open PySem PyProof.Rows
structure Cmp (prog:xA)(w:xQ)(A:yh)(s:xh)(O:BN)(key:xD->O.α)(U:xD->Prop)(κ:SortKind):Prop where
 lt:∀(E:xb->xh->Prop) (st:xP) (x y:xD) (Q:Option Bool->xP->Prop),kindOf st=κ -> U x->U y->Q (some (O.blt (key x) (key y))) st->wpS (xT prog w) A E s (lt' x y) Q st
section
variable  {prog:xA}{w:xQ}{A:yh}{E:xb->xh->Prop}{s:xh}{O:BN}{key:xD->O.α}{U:xD->Prop}{κ:SortKind}
theorem a6 {ar:Array xD}{i:Nat}{z:xD}{st:xP}{Q:xD->xP->Prop}(h:ar[i]? = some z)(hq:Q z st):wpS (xT prog w) A E s (elem' ar i) Q st:=by
 rw[elem'_eq,h]
 exact xG hq
theorem vq (C:Cmp prog w A s O key U κ){ky:xD}{ar:Array xD}{bs n ht:Nat}{st:xP}{Q:Option Nat->xP->Prop}(g:Nat->xD)(hk:kindOf st=κ)(uk:U ky)
  (hg:∀i,i<n->ar[bs+i]? = some (g i)) (hu:∀i,i<n->U (g i)) (hs:∀i j,i<=j->j<n->O.kle (key (g i)) (key (g j))) (hh:ht<n)
  (h:∀k,k<=n->(∀i,i<k->O.kle (key (g i)) (key ky))->(∀i,k<=i->i<n->O.klt (key ky) (key (g i)))->Q (some k) st):wpS (xT prog w) A E s (gal false ky ar bs n ht) Q st:=by
 refine rp (λi => !O.blt (key ky) (key (g i))) (λi hi R hr =>?_) (λi j hij hj hp =>?_) hh (λk hk' h1 h2=>h k hk' (λi hi =>?_) λi hi hn =>?_)
 ·refine xC (a6 (hg i hi) ?_)
  rw[if_neg (by simp)]
  exact xC (C.lt _ st ky (g i) _ hk uk (hu i hi) (xG hr))
 ·have a1:O.blt (key ky) (key (g j))=false:=by simpa using hp
  have a2:O.kle (key (g i)) (key ky):=xX (hs i j hij hj) a1
  have a3:O.blt (key ky) (key (g i))=false:=a2
  simp[a3]
 ·have a1:=h1 i hi
  exact (by simpa using a1:O.blt (key ky) (key (g i))=false)
 ·have a1:=h2 i hi hn
  exact (by simpa using a1:O.blt (key ky) (key (g i))=true)
theorem vt (C:Cmp prog w A s O key U κ){ky:xD}{ar:Array xD}{bs n ht:Nat}{st:xP}{Q:Option Nat->xP->Prop}(g:Nat->xD)(hk:kindOf st=κ)(uk:U ky)
  (hg:∀i,i<n->ar[bs+i]? = some (g i)) (hu:∀i,i<n->U (g i)) (hs:∀i j,i<=j->j<n->O.kle (key (g i)) (key (g j))) (hh:ht<n)
  (h:∀k,k<=n->(∀i,i<k->O.klt (key (g i)) (key ky))->(∀i,k<=i->i<n->O.kle (key ky) (key (g i)))->Q (some k) st):wpS (xT prog w) A E s (gal true ky ar bs n ht) Q st:=by
 refine rp (λi=>O.blt (key (g i)) (key ky)) (λi hi R hr =>?_) (λi j hij hj hp =>?_) hh (λk hk' h1 h2=>h k hk' (λi hi=>h1 i hi) λi hi hn=>h2 i hi hn)
 ·refine xC (a6 (hg i hi) ?_)
  rw[if_pos rfl]
  exact C.lt _ st (g i) ky _ hk (hu i hi) uk hr
 ·exact KeyOrd.klt_of_kle_of_klt (hs i j hij hj) hp
end
open PySem PyProof.Rows
section
variable  {O:BN}(key:xD->O.α)
def Le (p q:xD):Prop:=O.kle (key p) (key q)
structure MW (a b o:Array xD)(x y:Nat):Prop where
 hx:x<=a.size
 hy:y<=b.size
 perm:(o.toList++(a.toList.drop x++b.toList.drop y)).Perm (a.toList++b.toList)
 sorted:o.toList.Pairwise (Le key)
 below:∀p∈o.toList,∀z∈a.toList.drop x++b.toList.drop y,Le key p z
def dy (a b r:Array xD):Prop:=r.toList.Perm (a.toList++b.toList)/\r.toList.Pairwise (Le key)
variable  {key}
theorem MW.fin {a b o:Array xD}{x y:Nat}(m:MW key a b o x y){t:List xD}{r:Array xD}(hr:r.toList=o.toList++t)(ht:t.Perm (a.toList.drop x++b.toList.drop y))(hs:t.Pairwise (Le key)):dy key a b r:=by
 unfold dy
 rw[hr]
 exact ⟨(zx _ ht).trans m.perm,yR.mpr ⟨m.sorted,hs,λp hp q hq=>m.below p hp q (ht.mem_iff.mp hq)⟩⟩
theorem MW.take {a b o:Array xD}{x y x' y':Nat}(m:MW key a b o x y){t:List xD}{r:Array xD}(hr:r.toList=o.toList++t)(hx:x'<=a.size)(hy:y'<=b.size)
  (ht:(t++(a.toList.drop x'++b.toList.drop y')).Perm (a.toList.drop x++b.toList.drop y)) (hs:t.Pairwise (Le key)) (hb:∀p∈t,∀z∈a.toList.drop x'++b.toList.drop y',Le key p z):MW key a b r x' y':=by
 have sub:∀z,z∈t\/z∈a.toList.drop x'++b.toList.drop y'->z∈a.toList.drop x++b.toList.drop y:=λz hz=>ht.mem_iff.mp (xx.mpr hz)
 refine ⟨hx,hy,?_,?_,?_⟩
 ·rw[hr,xU]
  exact (zx _ ht).trans m.perm
 ·rw[hr]
  exact yR.mpr ⟨m.sorted,hs,λp hp q hq=>m.below p hp q (sub q (.inl hq))⟩
 ·rw[hr]
  intro p hp z hz
  rcases xx.mp hp with h | h
  ·exact m.below p h z (sub z (.inr hz))
  ·exact hb p h z hz
theorem drop_cons {α:Type}{l:List α}{i:Nat}{z:α}(h:l[i]? = some z):l.drop i=z :: l.drop (i+1):=by
 obtain ⟨hi,e⟩:=xv.mp h
 rw[BQ hi,e]
theorem drop_take {α:Type}(l:List α)(i k:Nat):l.drop i=(l.drop i).take k++l.drop (i+k):=by
 rw[<- Ed,zy]
theorem aJ {a:Array xD}{i:Nat}{z:xD}(h:a[i]? = some z):a.toList[i]? = some z:=by rw[xy];exact h
theorem MW.ij {a b o:Array xD}{x y:Nat}{z:xD}(m:MW key a b o x y)(h:a[x]? = some z)(ha:a.toList.Pairwise (Le key))(hb:∀t∈b.toList.drop y,Le key z t):MW key a b (o.push z) (x+1) y:=by
 have e:=drop_cons (aJ h)
 have hx:x<a.size:=(zp.mp h).1
 have pa:(z :: a.toList.drop (x+1)).Pairwise (Le key):=by rw[<- e];exact ha.sublist (yC _ _)
 refine m.take (t:=[z]) (by rw[zU]) hx m.hy (by rw[e];exact BR _) (zF _ _) λp hp t ht =>?_
 have ep:p=z:=by simpa using hp
 subst ep
 rcases xx.mp ht with q | q
 ·exact (Dm.mp pa).1 t q
 ·exact hb t q
theorem MW.j0 {a b o:Array xD}{x y:Nat}{z:xD}(m:MW key a b o x y)(h:b[y]? = some z)(hb:b.toList.Pairwise (Le key))(ha:∀t∈a.toList.drop x,Le key z t):MW key a b (o.push z) x (y+1):=by
 have e:=drop_cons (aJ h)
 have hy:y<b.size:=(zp.mp h).1
 have pb:(z :: b.toList.drop (y+1)).Pairwise (Le key):=by rw[<- e];exact hb.sublist (yC _ _)
 refine m.take (t:=[z]) (by rw[zU]) m.hx hy (by rw[e,List.singleton_append];exact DU.symm) (zF _ _) λp hp t ht =>?_
 have ep:p=z:=by simpa using hp
 subst ep
 rcases xx.mp ht with q | q
 ·exact ha t q
 ·exact (Dm.mp pb).1 t q
theorem ext_toList (a:Array xD)(x k:Nat):(a.extract x (x+k)).toList=(a.toList.drop x).take k:=by
 rw[zB,yZ,z7]
theorem fz (a:Array xD)(x:Nat):(a.extract x a.size).toList=a.toList.drop x:=by
 rw[zB,yZ]
 exact yq (by rw[y3,xk];exact xg _)
theorem aM {l:List xD}(h:l.Pairwise (Le key)){i j:Nat}{p q:xD}(hi:l[i]? = some p)(hj:l[j]? = some q)(hij:i<=j):Le key p q:=by
 by_cases e:i=j
 ·subst e
  rw[hi] at hj
  cases hj
  exact zf _
 ·obtain ⟨h1,e1⟩:=xv.mp hi
  obtain ⟨h2,e2⟩:=xv.mp hj
  have:=Az.mp h i j h1 h2 (by lia)
  rw[e1,e2] at this
  exact this
theorem aZ {l:List xD}{i:Nat}{t:xD}(h:t∈l.drop i):∃j,i<=j/\l[j]? = some t:=by
 obtain ⟨n,e⟩:=yn.mp h
 rw[Ai] at e
 exact ⟨i+n,by lia,e⟩
theorem ik {l:List xD}{i k:Nat}{t:xD}(h:t∈(l.drop i).take k):∃j,j<k/\l[i+j]? = some t:=by
 obtain ⟨n,e⟩:=yn.mp h
 rw[zg] at e
 split at e
 ·rw[Ai] at e
  exact ⟨n,by omega,e⟩
 ·cases e
theorem MW.rq {a b o:Array xD}{x y k:Nat}(m:MW key a b o x y)(hk:x+k<=a.size)(ha:a.toList.Pairwise (Le key))(hb:∀j p,j<k->a.toList[x+j]? = some p->∀t∈b.toList.drop y,Le key p t):MW key a b (o++a.extract x (x+k)) (x+k) y:=by
 refine m.take (t:=(a.toList.drop x).take k) (by rw[xY,ext_toList]) hk m.hy ?_ ?_ λp hp t ht =>?_
 ·rw[<- xU, <- drop_take]
 ·exact ha.sublist ((yA _ _).trans (yC _ _))
 ·obtain ⟨j,hj,e⟩:=ik hp
  rcases xx.mp ht with q | q
  ·obtain ⟨i,hi,e2⟩:=aZ q
   exact aM ha e e2 (by lia)
  ·exact hb j p hj e t q
theorem MW.rz {a b o:Array xD}{x y k:Nat}(m:MW key a b o x y)(hk:y+k<=b.size)(hb:b.toList.Pairwise (Le key))(ha:∀j p,j<k->b.toList[y+j]? = some p->∀t∈a.toList.drop x,Le key p t):MW key a b (o++b.extract y (y+k)) x (y+k):=by
 refine m.take (t:=(b.toList.drop y).take k) (by rw[xY,ext_toList]) m.hx hk ?_ ?_ λp hp t ht =>?_
 ·rw[drop_take b.toList y k]
  have e:((b.toList.drop y).take k++b.toList.drop (y+k)).take k=(b.toList.drop y).take k:=by rw[<- drop_take]
  rw[e]
  refine (List.perm_append_comm_assoc _ _ _)
 ·exact hb.sublist ((yA _ _).trans (yC _ _))
 ·obtain ⟨j,hj,e⟩:=ik hp
  rcases xx.mp ht with q | q
  ·exact ha j p hj e t q
  ·obtain ⟨i,hi,e2⟩:=aZ q
   exact aM hb e e2 (by lia)
theorem MW.pX {a b o:Array xD}{x y:Nat}(m:MW key a b o x y)(ha:a.toList.Pairwise (Le key))(hy:y=b.size):dy key a b (o++a.extract x a.size++b.extract y b.size):=by
 subst hy
 have e:b.toList.drop b.size=[]:=Cs (by rw[xk];exact xg _)
 refine m.fin (t:=a.toList.drop x) (by rw[xY,xY,fz,fz,e,yu]) (by rw[e,yu]) (ha.sublist (yC _ _))
theorem MW.pY {a b o:Array xD}{x y:Nat}(m:MW key a b o x y)(hb:b.toList.Pairwise (Le key))(hx:x=a.size):dy key a b (o++a.extract x a.size++b.extract y b.size):=by
 subst hx
 have e:a.toList.drop a.size=[]:=Cs (by rw[xk];exact xg _)
 refine m.fin (t:=b.toList.drop y) (by rw[xY,xY,fz,fz,e,yu]) (by rw[e,AU]) (hb.sublist (yC _ _))
theorem MW.last {a b o:Array xD}{x y:Nat}(m:MW key a b o x y)(ha:a.toList.Pairwise (Le key))(hb:b.toList.Pairwise (Le key))(hx:x+1=a.size)(hl:∀p q,p∈b.toList->a[a.size-1]? = some q->Le key p q):dy key a b (o++b.extract y b.size++a.extract x a.size):=by
 refine m.fin (t:=b.toList.drop y++a.toList.drop x) (by rw[xY,xY,fz,fz,xU]) Ap ?_
 refine yR.mpr ⟨hb.sublist (yC _ _),ha.sublist (yC _ _),λp hp q hq=>hl p q (zC hp) ?_⟩
 obtain ⟨i,hi,e⟩:=aZ hq
 rw[xy] at e
 have hi2:i<a.size:=(zp.mp e).1
 rw[show a.size-1=i by lia]
 exact e
theorem MW.size {a b o:Array xD}{x y:Nat}(m:MW key a b o x y):o.size+(a.size-x)+(b.size-y)=a.size+b.size:=by
 have e:=m.perm.length_eq
 simp only[w9,y3,xk] at e
 lia
end
structure Sm (st st':xP):Prop where
 k:kindOf st'=kindOf st
 a:xI st'=xI st
 p:xO st'=xO st
 f:failedOf st'=failedOf st
theorem Sm.refl (st:xP):Sm st st:=⟨rfl,rfl,rfl,rfl⟩
theorem Sm.mg {st st':xP}(h:Sm st st')(n:Nat):Sm st (SortSt.mk' (kindOf st') (xI st') (xO st') n (failedOf st')):=⟨h.k,h.a,h.p,h.f⟩
open PySem PyProof.Rows
section
variable  {prog:xA}{w:xQ}{A:yh}{E:xb->xh->Prop}{s:xh}{O:BN}{key:xD->O.α}{U:xD->Prop}{κ:SortKind}
theorem a9 {a:Array xD}{i:Nat}(h:i<a.size):∃z,a[i]? = some z:=⟨a[i],by simp[h]⟩
theorem bI {a:Array xD}{i:Nat}{z:xD}(h:a[i]? = some z):z∈a.toList:=yn.mpr ⟨i,by rw[xy];exact h⟩
theorem ltq {x n:Nat}(h:x<=n)(c:¬ (x == n)=true):x<n:=Dn h λz=>c (beq_iff_eq.mpr z)
abbrev LoC:=Option (Array xD)×Array xD×Nat×Nat×Nat×Nat×Nat
def tF (a b o:Array xD)(x y mg ac bc:Nat):StateT xP Sem (ForInStep LoC):=do
  let z ← elem' a x
  if (x+1+1 == a.size)=true then pure (.done (some (o.push z++b.extract y b.size++a.extract (x+1) a.size),o.push z,x+1,y,mg,ac,bc))
  else if (decide (ac<7) && decide (bc<7))=true then pure (.done (none,o.push z,x+1,y,mg,ac,bc))
  else pure (.yield (none,o.push z,x+1,y,mg,ac,bc))
def tG (a b o:Array xD)(x y mg ac bc:Nat):StateT xP Sem (ForInStep LoC):=do
  let z ← elem' b y
  if (y+1 == b.size)=true then pure (.done (some (o.push z++a.extract x a.size++b.extract (y+1) b.size),o.push z,x,y+1,mg,ac,bc))
  else do
    let z2 ← elem' a x
    let __x ← gal true z2 b (y+1) (b.size-(y+1)) 0
    match __x with
    | some k =>
      if k>0 then
        if (y+1+k == b.size)=true then pure (.done (some (o.push z++b.extract (y+1) (y+1+k)++a.extract x a.size++b.extract (y+1+k) b.size),o.push z++b.extract (y+1) (y+1+k),x,y+1+k,mg,ac,k))
        else tF a b (o.push z++b.extract (y+1) (y+1+k)) x (y+1+k) mg ac k
      else tF a b (o.push z) x (y+1) mg ac k
    | _=>pure (.done (some (o.push z++a.extract x a.size++b.extract (y+1) b.size),o.push z,x,y+1,mg,ac,bc))
def pZ (a b p:Array xD)(x y ac bc mg:Nat):StateT xP Sem (ForInStep LoC):=do
  modify (λs=>SortSt.mk' (kindOf s) (xI s) (xO s) mg (failedOf s))
  let z ← elem' b y
  let __x ← gal false z a x (a.size-x) 0
  match __x with
  | some k =>
    if k>0 then
      if (x+k+1 == a.size)=true then pure (.done (some (p++a.extract x (x+k)++b.extract y b.size++a.extract (x+k) a.size),p++a.extract x (x+k),x+k,y,mg,k,bc))
      else if (x+k == a.size)=true then pure (.done (some (p++a.extract x (x+k)++a.extract (x+k) a.size++b.extract y b.size),p++a.extract x (x+k),x+k,y,mg,k,bc))
      else tG a b (p++a.extract x (x+k)) (x+k) y mg k bc
    else tG a b p x y mg k bc
  | _=>pure (.done (some (p++a.extract x a.size++b.extract y b.size),p,x,y,mg,ac,bc))
def LoQ (key:xD->O.α)(a b:Array xD)(st:xP)(n:Nat)(r:ForInStep LoC)(st':xP):Prop:=match r with
 | .done c=>Sm st st'/\((∃r p x y mg ac bc,c=(some r,p,x,y,mg,ac,bc)/\dy key a b r)\/∃p x y mg ac bc,c=(none,p,x,y,mg,ac,bc)/\MW key a b p x y/\x+1<a.size/\y<b.size/\n<=p.size)
 | .yield c=>Sm st st'/\∃p x y mg ac bc,c=(none,p,x,y,mg,ac,bc)/\MW key a b p x y/\x+1<a.size/\y<b.size/\n<=p.size
theorem LoQ.out {a b:Array xD}{st st':xP}{n:Nat}{r:Array xD}{c:Array xD×Nat×Nat×Nat×Nat×Nat}(sm:Sm st st')(f:dy key a b r):LoQ key a b st n (.done (some r,c)) st':=by
 obtain ⟨p,x,y,mg,ac,bc⟩:=c
 exact ⟨sm,.inl ⟨_,_,_,_,_,_,_,rfl,f⟩⟩
theorem oB {a b:Array xD}{st st':xP}(ha:a.toList.Pairwise (Le key))(hb:b.toList.Pairwise (Le key))(hl:∀p q,p∈b.toList->a[a.size-1]? = some q->Le key p q)
  {o:Array xD} {x y mg ac bc n:Nat} {za:xD} (sm:Sm st st') (ea:a[x]? = some za) (m4:MW key a b (o.push za) (x+1) y) (hx:x+1<a.size) (hy:y<b.size) (hn:n<=o.size):wpS (xT prog w) A E s (tF a b o x y mg ac bc) (LoQ key a b st n) st':=by
 unfold tF
 refine xC (a6 ea ?_)
 by_cases d5:(x+1+1 == a.size)=true
 ·rw[if_pos d5]
  exact xG (LoQ.out sm (m4.last ha hb (beq_iff_eq.mp d5) hl))
 rw[if_neg d5]
 have hx2:x+1+1<a.size:=ltq hx d5
 have hn':n<=(o.push za).size:=by rw[zW];exact A9 hn
 split
 ·exact xG ⟨sm,.inr ⟨_,_,_,_,_,_,rfl,m4,hx2,hy,hn'⟩⟩
 ·exact xG ⟨sm,_,_,_,_,_,_,rfl,m4,hx2,hy,hn'⟩
theorem oD (C:Cmp prog w A s O key U κ){a b:Array xD}{st st':xP}(hκ:kindOf st=κ)(ua:∀p∈a.toList,U p)(ub:∀p∈b.toList,U p)
  (ha:a.toList.Pairwise (Le key)) (hb:b.toList.Pairwise (Le key)) (hl:∀p q,p∈b.toList->a[a.size-1]? = some q->Le key p q)
  {o:Array xD} {x y mg ac bc n:Nat} {zb:xD} (sm:Sm st st') (eb:b[y]? = some zb) (mk:MW key a b o x y) (bl:∀t∈a.toList.drop x,Le key zb t) (hx1:x+1<a.size) (hy:y<b.size) (hn:n<=o.size):wpS (xT prog w) A E s (tG a b o x y mg ac bc) (LoQ key a b st n) st':=by
 unfold tG
 refine xC (a6 eb ?_)
 have m2:=mk.j0 eb hb bl
 by_cases d3:(y+1 == b.size)=true
 ·rw[if_pos d3]
  exact xG (LoQ.out sm (m2.pX ha (beq_iff_eq.mp d3)))
 rw[if_neg d3]
 have hy1:y+1<b.size:=ltq hy d3
 have hxa:x<a.size:=As hx1
 obtain ⟨za,ea⟩:=a9 hxa
 refine xC (a6 ea ?_)
 refine xC (vt C (λi=>(b[y+1+i]?).getD za) (sm.k.trans hκ) (ua _ (bI ea)) (λi hi =>?_) (λi hi =>?_) (λi j hij hj =>?_) (DE hy1) λk1 hk1 g1 g2 =>?_)
 ·obtain ⟨z,e⟩:=a9 (show y+1+i<b.size by omega)
  rw[e];rfl
 ·obtain ⟨z,e⟩:=a9 (show y+1+i<b.size by omega)
  rw[e];exact ub _ (bI e)
 ·obtain ⟨z,e⟩:=a9 (show y+1+i<b.size by omega)
  obtain ⟨z',e'⟩:=a9 (show y+1+j<b.size by omega)
  rw[e,e'];exact aM hb (aJ e) (aJ e') (AF hij _)
 dsimp only at g1 g2 ⊢
 have tb:∀j q,j<k1->b.toList[y+1+j]? = some q->∀t∈a.toList.drop x,Le key q t:=λj q hj e t ht=>by
  have z:=g1 j hj
  rw[xy] at e
  rw[e] at z
  obtain ⟨n,hn,e2⟩:=aZ ht
  exact xX (yP z) (aM ha (aJ ea) e2 hn)
 have hk1':y+1+k1<=b.size:=by omega
 have m3:=m2.rz (k:=k1) hk1' hb tb
 have bl2:∀t∈b.toList.drop (y+1+k1),Le key za t:=λt ht=>by
  obtain ⟨n,hn,e2⟩:=aZ ht
  rw[xy] at e2
  have hn2:n<b.size:=(zp.mp e2).1
  have z:=g2 (n-(y+1)) (by omega) (by omega)
  rw[show y+1+(n-(y+1))=n by omega,e2] at z
  exact z
 have hn1:n<=(o.push zb).size:=by rw[zW];exact A9 hn
 by_cases k2:k1>0
 ·rw[if_pos k2]
  by_cases d4:(y+1+k1 == b.size)=true
  ·rw[if_pos d4]
   exact xG (LoQ.out sm (m3.pX ha (beq_iff_eq.mp d4)))
  rw[if_neg d4]
  exact oB ha hb hl sm ea (m3.ij ea ha bl2) hx1 (ltq hk1' d4) (ye hn1 (by rw[Au];exact zN _ _))
 ·rw[if_neg k2]
  obtain rfl:k1=0:=Ae k2
  exact oB ha hb hl sm ea (m2.ij ea ha bl2) hx1 hy1 hn1
theorem oE (C:Cmp prog w A s O key U κ){a b:Array xD}{st st':xP}(hκ:kindOf st=κ)(ua:∀p∈a.toList,U p)(ub:∀p∈b.toList,U p)
  (ha:a.toList.Pairwise (Le key)) (hb:b.toList.Pairwise (Le key)) (hl:∀p q,p∈b.toList->a[a.size-1]? = some q->Le key p q)
  {p:Array xD} {x y ac bc n:Nat} (mg:Nat) (sm:Sm st st') (m:MW key a b p x y) (hx:x+1<a.size) (hy:y<b.size) (hn:n<=p.size):wpS (xT prog w) A E s (pZ a b p x y ac bc mg) (LoQ key a b st n) st':=by
 unfold pZ
 obtain ⟨zb,eb⟩:=a9 hy
 refine xC (zI ?_)
 refine xC (a6 eb ?_)
 refine xC (vq C (λi=>(a[x+i]?).getD zb) ((sm.mg _).k.trans hκ) (ub _ (bI eb)) (λi hi =>?_) (λi hi =>?_) (λi j hij hj =>?_) (DE (As hx)) λk hk h1 h2 =>?_)
 ·obtain ⟨z,e⟩:=a9 (show x+i<a.size by lia)
  rw[e];rfl
 ·obtain ⟨z,e⟩:=a9 (show x+i<a.size by lia)
  rw[e];exact ua _ (bI e)
 ·obtain ⟨z,e⟩:=a9 (show x+i<a.size by lia)
  obtain ⟨z',e'⟩:=a9 (show x+j<a.size by lia)
  rw[e,e'];exact aM ha (aJ e) (aJ e') (AF hij _)
 dsimp only at h1 h2 ⊢
 have ta:∀j q,j<k->a.toList[x+j]? = some q->∀t∈b.toList.drop y,Le key q t:=λj q hj e t ht=>by
  have z:=h1 j hj
  rw[xy] at e
  rw[e] at z
  obtain ⟨n,hn,e2⟩:=aZ ht
  exact xX (show O.kle (key q) (key zb) from z) (aM hb (aJ eb) e2 hn)
 have hk':x+k<=a.size:=by lia
 have mk:=m.rq (k:=k) hk' ha ta
 have bl:∀t∈a.toList.drop (x+k),Le key zb t:=λt ht=>by
  obtain ⟨n,hn,e2⟩:=aZ ht
  rw[xy] at e2
  have hn2:n<a.size:=(zp.mp e2).1
  have z:=h2 (n-x) (by lia) (by lia)
  rw[show x+(n-x)=n by lia,e2] at z
  exact yP z
 by_cases k0:k>0
 ·rw[if_pos k0]
  by_cases d1:(x+k+1 == a.size)=true
  ·rw[if_pos d1]
   exact xG (LoQ.out (sm.mg _) (mk.last ha hb (beq_iff_eq.mp d1) hl))
  rw[if_neg d1]
  by_cases d2:(x+k == a.size)=true
  ·rw[if_pos d2]
   exact xG (LoQ.out (sm.mg _) (mk.pY hb (beq_iff_eq.mp d2)))
  rw[if_neg d2]
  exact oD C hκ ua ub ha hb hl (sm.mg _) eb mk bl (ltq (ltq hk' d2) d1) hy (ye hn (by rw[Au];exact zN _ _))
 ·rw[if_neg k0]
  obtain rfl:k=0:=Ae k0
  exact oD C hκ ua ub ha hb hl (sm.mg _) eb m bl hx hy hn
theorem tH (C:Cmp prog w A s O key U κ){a b:Array xD}{st st':xP}(hκ:kindOf st=κ)(ua:∀p∈a.toList,U p)(ub:∀p∈b.toList,U p)
  (ha:a.toList.Pairwise (Le key)) (hb:b.toList.Pairwise (Le key)) (hl:∀p q,p∈b.toList->a[a.size-1]? = some q->Le key p q)
  {p:Array xD} {x y ac bc n mg:Nat} (sm:Sm st st') (m:MW key a b p x y) (hx:x+1<a.size) (hy:y<b.size) (hn:n<=p.size):wpS (xT prog w) A E s (if mg>1 then pZ a b p x y ac bc (mg-1) else pZ a b p x y ac bc mg) (LoQ key a b st n) st':=by
 split
 ·exact oE C hκ ua ub ha hb hl (mg-1) sm m hx hy hn
 ·exact oE C hκ ua ub ha hb hl mg sm m hx hy hn
abbrev LoD:=Option (Array xD)×Array xD×Nat×Nat×Nat×Nat
abbrev LoE:=Option (Array xD)×Array xD×Nat×Nat×Nat
def rA (a b:Array xD)(mg:Nat)(c:LoD):StateT xP Sem (ForInStep LoD):=do
  let u ← elem' b c.2.2.2.1
  let v ← elem' a c.2.2.1
  let __x ← lt' u v
  match __x with
  | some bw =>
    if bw=true then do
      let z ← elem' b c.2.2.2.1
      if (c.2.2.2.1+1 == b.size)=true then pure (.done (some (c.2.1.push z++a.extract c.2.2.1 a.size++b.extract (c.2.2.2.1+1) b.size),c.2.1.push z,c.2.2.1,c.2.2.2.1+1,0,c.2.2.2.2.2+1))
      else if c.2.2.2.2.2+1≥mg then pure (.done (none,c.2.1.push z,c.2.2.1,c.2.2.2.1+1,0,c.2.2.2.2.2+1))
      else pure (.yield (none,c.2.1.push z,c.2.2.1,c.2.2.2.1+1,0,c.2.2.2.2.2+1))
    else do
      let z ← elem' a c.2.2.1
      if (c.2.2.1+1+1 == a.size)=true then pure (.done (some (c.2.1.push z++b.extract c.2.2.2.1 b.size++a.extract (c.2.2.1+1) a.size),c.2.1.push z,c.2.2.1+1,c.2.2.2.1,c.2.2.2.2.1+1,0))
      else if c.2.2.2.2.1+1≥mg then pure (.done (none,c.2.1.push z,c.2.2.1+1,c.2.2.2.1,c.2.2.2.2.1+1,0))
      else pure (.yield (none,c.2.1.push z,c.2.2.1+1,c.2.2.2.1,c.2.2.2.2.1+1,0))
  | _=>pure (.done (some (c.2.1++a.extract c.2.2.1 a.size++b.extract c.2.2.2.1 b.size),c.2.1,c.2.2.1,c.2.2.2.1,c.2.2.2.2.1,c.2.2.2.2.2))
def vv (a b:Array xD)(c:LoC):StateT xP Sem (ForInStep LoC) :=
 if c.2.2.2.2.1>1 then pZ a b c.2.1 c.2.2.1 c.2.2.2.1 c.2.2.2.2.2.1 c.2.2.2.2.2.2 (c.2.2.2.2.1-1) else pZ a b c.2.1 c.2.2.1 c.2.2.2.1 c.2.2.2.2.2.1 c.2.2.2.2.2.2 c.2.2.2.2.1
def nq (a b:Array xD)(c:LoE):StateT xP Sem (ForInStep LoE):=do
  let d ← forIn [0:a.size+b.size] ((none,c.2.1,c.2.2.1,c.2.2.2.1,0,0):LoD) λ_ d=>rA a b c.2.2.2.2 d
  match d.1 with
  | some r=>pure (.done (some r,d.2.1,d.2.2.1,d.2.2.2.1,c.2.2.2.2))
  | none=>do
    rule "list.sort.gallop"
    let e ← forIn [0:a.size+b.size] ((none,d.2.1,d.2.2.1,d.2.2.2.1,c.2.2.2.2+1,d.2.2.2.2.1,d.2.2.2.2.2):LoC) λ_ e=>vv a b e
    match e.1 with
    | some r=>pure (.done (some r,e.2.1,e.2.2.1,e.2.2.2.1,e.2.2.2.2.1))
    | none=>do
      modify (λs=>SortSt.mk' (kindOf s) (xI s) (xO s) (e.2.2.2.2.1+1) (failedOf s))
      pure (.yield (none,e.2.1,e.2.2.1,e.2.2.2.1,e.2.2.2.2.1+1))
theorem tI (a b:Array xD):mLo a b=(do
    rule "list.sort.merge-lo"
    let z ← elem' b 0
    if (1 == b.size)=true then pure (#[z]++a.extract 0 a.size++b.extract 1 b.size)
    else if (0+1 == a.size)=true then pure (#[z]++b.extract 1 b.size++a.extract 0 a.size)
    else do
      let g ← get
      let c ← forIn [0:a.size+b.size] ((none, #[z],0,1,gallopOf g):LoE) λ_ c=>nq a b c
      match c.1 with
      | some r=>pure r
      | none=>unsupported "internal:list.sort.merge-bound"):=by
  kernel_rfl
def LdI (key:xD->O.α)(a b:Array xD)(st:xP)(n:Nat)(c:LoD)(st':xP):Prop:=Sm st st'/\∃o' x y ac bc,c=(none,o',x,y,ac,bc)/\MW key a b o' x y/\x+1<a.size/\y<b.size/\n<=o'.size
def LdQ (key:xD->O.α)(a b:Array xD)(st:xP)(n:Nat)(c:LoD)(st':xP):Prop:=Sm st st'/\((∃r o x y ac bc,c=(some r,o,x,y,ac,bc)/\dy key a b r)\/∃o' x y ac bc,c=(none,o',x,y,ac,bc)/\MW key a b o' x y/\x+1<a.size/\y<b.size/\n<=o'.size)
theorem rB (C:Cmp prog w A s O key U κ){a b:Array xD}{st st':xP}(hκ:kindOf st=κ)(ua:∀p∈a.toList,U p)(ub:∀p∈b.toList,U p)
  (ha:a.toList.Pairwise (Le key)) (hb:b.toList.Pairwise (Le key)) (hl:∀p q,p∈b.toList->a[a.size-1]? = some q->Le key p q)
  {mg n m':Nat} {c:LoD} (I:LdI key a b st n c st') (hm:m'<=n+1) {Q:ForInStep LoD->xP->Prop} (h:∀r st',(match r with | .done c'=>LdQ key a b st (n+1) c' st' | .yield c'=>LdI key a b st m' c' st')->Q r st'):wpS (xT prog w) A E s (rA a b mg c) Q st':=by
 obtain ⟨sm2,o',x,y,ac,bc,rfl,m,hx,hy,hz⟩:=I
 unfold rA
 obtain ⟨za,ea⟩:=a9 (As hx)
 obtain ⟨zb,eb⟩:=a9 hy
 refine xC (a6 eb (xC (a6 ea (xC (C.lt _ st' zb za _ (sm2.k.trans hκ) (ub _ (bI eb)) (ua _ (bI ea)) ?_)))))
 dsimp only
 have sz:∀z,n+1<=(o'.push z).size:=λz=>by rw[zW];exact DV hz
 cases hlt:O.blt (key zb) (key za) with
 | true =>
  rw[if_pos rfl]
  refine xC (a6 eb ?_)
  have m1:=m.j0 eb hb λt ht=>by
   obtain ⟨n,hn,e⟩:=aZ ht
   exact xX (yP hlt) (aM ha (aJ ea) e hn)
  by_cases c3:(y+1 == b.size)=true
  ·rw[if_pos c3]
   exact xG (h _ _ ⟨sm2,.inl ⟨_,_,_,_,_,_,rfl,m1.pX ha (beq_iff_eq.mp c3)⟩⟩)
  ·rw[if_neg c3]
   have c3':=ltq hy c3
   split
   ·exact xG (h _ _ ⟨sm2,.inr ⟨_,_,_,_,_,rfl,m1,hx,c3',sz _⟩⟩)
   ·exact xG (h _ _ ⟨sm2,_,_,_,_,_,rfl,m1,hx,c3',ye hm (sz _)⟩)
 | false =>
  rw[if_neg xw]
  refine xC (a6 ea ?_)
  have m1:=m.ij ea ha λt ht=>by
   obtain ⟨n,hn,e⟩:=aZ ht
   exact xX (show O.kle (key za) (key zb) from hlt) (aM hb (aJ eb) e hn)
  by_cases c3:(x+1+1 == a.size)=true
  ·rw[if_pos c3]
   exact xG (h _ _ ⟨sm2,.inl ⟨_,_,_,_,_,_,rfl,m1.last ha hb (beq_iff_eq.mp c3) hl⟩⟩)
  ·rw[if_neg c3]
   have c3':=ltq hx c3
   split
   ·exact xG (h _ _ ⟨sm2,.inr ⟨_,_,_,_,_,rfl,m1,c3',hy,sz _⟩⟩)
   ·exact xG (h _ _ ⟨sm2,_,_,_,_,_,rfl,m1,c3',hy,ye hm (sz _)⟩)
def LeI (key:xD->O.α)(a b:Array xD)(st:xP)(n:Nat)(c:LoE)(st':xP):Prop:=Sm st st'/\∃o x y mg,c=(none,o,x,y,mg)/\MW key a b o x y/\x+1<a.size/\y<b.size/\n+1<=o.size
def LeQ (key:xD->O.α)(a b:Array xD)(st:xP)(c:LoE)(st':xP):Prop:=Sm st st'/\((∃r o x y mg,c=(some r,o,x,y,mg)/\dy key a b r)\/∃o x y mg,c=(none,o,x,y,mg)/\MW key a b o x y/\x+1<a.size/\y<b.size/\a.size+b.size+1<=o.size)
theorem p5 (C:Cmp prog w A s O key U κ){a b:Array xD}{st st':xP}(hκ:kindOf st=κ)(ua:∀p∈a.toList,U p)(ub:∀p∈b.toList,U p)
  (ha:a.toList.Pairwise (Le key)) (hb:b.toList.Pairwise (Le key)) (na:0<a.size) (hl:∀p q,p∈b.toList->a[a.size-1]? = some q->Le key p q)
  {n:Nat} {c:LoE} (I:LeI key a b st n c st'):wpS (xT prog w) A E s (nq a b c) (λr st'=>match r with | .done c'=>LeQ key a b st c' st' | .yield c'=>LeI key a b st (n+1) c' st') st':=by
 obtain ⟨sm1,o,x,y,mg,rfl,m,hx,hy,hz⟩:=I
 unfold nq
 have q1:1<=a.size+b.size:=ye na (zN _ _)
 refine xC (zv (yH (I:=λj c st'=>LdI key a b st (o.size+min j 1) c st') (Q:=LdQ key a b st (o.size+1)) (λj c st2 _ hj J=>rB (n:=o.size+min j 1) (m':=o.size+min (j+1) 1) C hκ ua ub ha hb hl J (by lia) λr st' k =>?_) (λc st' J =>?_) ⟨sm1,o,x,y,0,0,rfl,m,hx,hy,xg _⟩) ?_)
 ·cases r with
  | done c'=>exact k.imp id λz=>z.imp id λ⟨o',x,y,ac,bc,e,m,hx,hy,hz⟩=>⟨o',x,y,ac,bc,e,m,hx,hy,by lia⟩
  | yield c'=>exact k
 ·obtain ⟨sm,o',x,y,ac,bc,e,m,hx,hy,hz⟩:=J
  exact ⟨sm,.inr ⟨o',x,y,ac,bc,e,m,hx,hy,by lia⟩⟩
 rintro c st2 ⟨sm2,⟨r,o',x,y,ac,bc,rfl,fr⟩ | ⟨o',x,y,ac,bc,rfl,m,hx,hy,hz2⟩⟩
 ·exact xG ⟨sm2,.inl ⟨_,_,_,_,_,rfl,fr⟩⟩
 dsimp only
 refine xC (CV (Ay ⟨rfl,?_⟩))
 refine xC (zv (yH (I:=λ_ c st'=>LoQ key a b st o'.size (.yield c) st') (Q:=λc st'=>LoQ key a b st o'.size (.done c) st') (λj c st3 _ hj J =>?_) (λc st' J=>⟨J.1,.inr J.2⟩) ⟨sm2,o',x,y,_,ac,bc,rfl,m,hx,hy,xg _⟩) ?_)
 ·obtain ⟨sm3,p,x,y,mg,ac,bc,rfl,m,hx,hy,hz3⟩:=J
  refine zv (tH C hκ ua ub ha hb hl sm3 m hx hy hz3) ?_
  intro r st' h
  cases r <;> exact h
 rintro c st3 ⟨sm3,⟨r,p,x,y,mg,ac,bc,rfl,fr⟩ | ⟨p,x,y,mg,ac,bc,rfl,m,hx,hy,hz3⟩⟩
 ·exact xG ⟨sm3,.inl ⟨_,_,_,_,_,rfl,fr⟩⟩
 ·dsimp only
  exact xC (zI (xG ⟨sm3.mg _,p,x,y,_,rfl,m,hx,hy,by lia⟩))
theorem vw (C:Cmp prog w A s O key U κ){a b:Array xD}{st:xP}{Q:Array xD->xP->Prop}(hκ:kindOf st=κ)(ua:∀p∈a.toList,U p)(ub:∀p∈b.toList,U p)
  (ha:a.toList.Pairwise (Le key)) (hb:b.toList.Pairwise (Le key)) (na:0<a.size) (nb:0<b.size) (h0:∀p q,b[0]? = some p->a[0]? = some q->Le key p q) (hl:∀p q,p∈b.toList->a[a.size-1]? = some q->Le key p q)
  (h:∀r st',Sm st st'->dy key a b r->Q r st'):wpS (xT prog w) A E s (mLo a b) Q st:=by
 rw[tI]
 refine xC (CV (Ay ⟨rfl,?_⟩))
 obtain ⟨b0,eb0⟩:=a9 nb
 obtain ⟨a0,ea0⟩:=a9 na
 have a0le:∀t∈a.toList,Le key a0 t:=λt ht=>by
  obtain ⟨i,e⟩:=yn.mp ht
  exact aM ha (aJ ea0) e (yk _)
 have m0:MW key a b #[] 0 0:=⟨yk _,yk _,BR _,List.Pairwise.nil,λp hp=>by cases hp⟩
 have m1:MW key a b #[b0] 0 1:=m0.j0 eb0 hb λt ht=>xX (h0 _ _ eb0 ea0) (a0le t ht)
 refine xC (a6 eb0 ?_)
 by_cases c1:(1 == b.size)=true
 ·rw[if_pos c1]
  exact xG (h _ st (Sm.refl st) (m1.pX ha (beq_iff_eq.mp c1)))
 rw[if_neg c1]
 by_cases c2:(0+1 == a.size)=true
 ·rw[if_pos c2]
  exact xG (h _ st (Sm.refl st) (m1.last ha hb (beq_iff_eq.mp c2) hl))
 rw[if_neg c2]
 refine xC (Cj ?_)
 refine xC (zv (yH (I:=λi c st'=>LeI key a b st i c st') (Q:=LeQ key a b st) (λi c st1 _ _ J=>zv (p5 C hκ ua ub ha hb na hl J) λr st' h=>by cases r <;> exact h) (λc st' J =>?_) ⟨Sm.refl st,_,_,_,_,rfl,m1,ltq na c2,ltq nb c1,xg _⟩) ?_)
 ·obtain ⟨sm,o,x,y,mg,e,m,hx,hy,hz⟩:=J
  exact ⟨sm,.inr ⟨o,x,y,mg,e,m,hx,hy,by lia⟩⟩
 rintro c st' ⟨sm,⟨r,o,x,y,mg,rfl,fr⟩ | ⟨o,x,y,mg,rfl,m,hx,hy,hz⟩⟩
 ·exact xG (h r st' sm fr)
 ·have:=m.size
  lia
end
open PySem PyProof.Rows
section
variable  {O:BN}(key:xD->O.α)
structure MV (a b o:Array xD)(x y:Nat):Prop where
 hx:x<=a.size
 hy:y<=b.size
 perm:((a.toList.take x++b.toList.take y)++o.toList.reverse).Perm (a.toList++b.toList)
 sorted:o.toList.reverse.Pairwise (Le key)
 above:∀p∈a.toList.take x++b.toList.take y,∀q∈o.toList.reverse,Le key p q
variable  {key}
theorem MV.fin {a b o:Array xD}{x y:Nat}(m:MV key a b o x y){t:List xD}{r:Array xD}(hr:r.toList=t++o.toList.reverse)(ht:t.Perm (a.toList.take x++b.toList.take y))(hs:t.Pairwise (Le key)):dy key a b r:=by
 unfold dy
 rw[hr]
 exact ⟨(zK _ ht).trans m.perm,yR.mpr ⟨hs,m.sorted,λp hp q hq=>m.above p (ht.mem_iff.mp hp) q hq⟩⟩
theorem MV.take {a b o:Array xD}{x y x' y':Nat}(m:MV key a b o x y){t:List xD}{r:Array xD}(hr:r.toList.reverse=t++o.toList.reverse)(hx:x'<=a.size)(hy:y'<=b.size)
  (ht:((a.toList.take x'++b.toList.take y')++t).Perm (a.toList.take x++b.toList.take y)) (hs:t.Pairwise (Le key)) (hb:∀p∈a.toList.take x'++b.toList.take y',∀q∈t,Le key p q):MV key a b r x' y':=by
 have sub:∀z,z∈a.toList.take x'++b.toList.take y'\/z∈t->z∈a.toList.take x++b.toList.take y:=λz hz=>ht.mem_iff.mp (xx.mpr hz)
 refine ⟨hx,hy,?_,?_,?_⟩
 ·rw[hr, <- xU]
  exact (zK _ ht).trans m.perm
 ·rw[hr]
  exact yR.mpr ⟨hs,m.sorted,λp hp q hq=>m.above p (sub p (.inr hp)) q hq⟩
 ·rw[hr]
  intro p hp z hz
  rcases xx.mp hz with h | h
  ·exact hb p hp z h
  ·exact m.above p (sub p (.inl hp)) z h
theorem ba {l:List xD}{k:Nat}{t:xD}(h:t∈l.take k):∃j,j<k/\l[j]? = some t:=by
 obtain ⟨n,e⟩:=yn.mp h
 rw[zg] at e
 split at e
 ·exact ⟨n,by omega,e⟩
 ·cases e
theorem j1 {l:List xD}{x:Nat}{z:xD}(hx:1<=x)(h:l[x-1]? = some z):l.take x=l.take (x-1)++[z]:=by
 obtain ⟨n,rfl⟩:∃n,x=n+1:=⟨x-1,by lia⟩
 rw[Nat.add_sub_cancel] at h ⊢
 rw[y8,h]
 rfl
theorem oF (a:Array xD)(c x:Nat)(hx:x<=a.size):(a.extract c x).toList=(a.toList.take x).drop c:=by
 rw[zB,yZ,List.drop_take]
theorem fA (a:Array xD)(x:Nat):(a.extract 0 x).toList=a.toList.take x:=by
 rw[zB,yZ,BS,Nat.sub_zero]
theorem MV.ij {a b o:Array xD}{x y:Nat}{z:xD}(m:MV key a b o x y)(h1:1<=x)(h:a[x-1]? = some z)(ha:a.toList.Pairwise (Le key))(hb:∀t∈b.toList.take y,Le key t z):MV key a b (o.push z) (x-1) y:=by
 have e:=j1 h1 (aJ h)
 refine m.take (t:=[z]) (by rw[zU,AH];rfl) (by have:=m.hx;lia) m.hy ?_ (zF _ _) λp hp q hq =>?_
 ·rw[e,xU,xU]
  exact zx _ Ap
 ·have eq:q=z:=by simpa using hq
  subst eq
  rcases xx.mp hp with r | r
  ·obtain ⟨j,hj,e2⟩:=ba r
   exact aM ha e2 (aJ h) (by lia)
  ·exact hb p r
theorem MV.j0 {a b o:Array xD}{x y:Nat}{z:xD}(m:MV key a b o x y)(h1:1<=y)(h:b[y-1]? = some z)(hb:b.toList.Pairwise (Le key))(ha:∀t∈a.toList.take x,Le key t z):MV key a b (o.push z) x (y-1):=by
 have e:=j1 h1 (aJ h)
 refine m.take (t:=[z]) (by rw[zU,AH];rfl) m.hx (by have:=m.hy;lia) ?_ (zF _ _) λp hp q hq =>?_
 ·rw[e,xU]
 ·have eq:q=z:=by simpa using hq
  subst eq
  rcases xx.mp hp with r | r
  ·exact ha p r
  ·obtain ⟨j,hj,e2⟩:=ba r
   exact aM hb e2 (aJ h) (by lia)
theorem oG (l:List xD){c x:Nat}(h:c<=x):l.take x=l.take c++(l.take x).drop c:=by
 have e:(l.take x).take c=l.take c:=by rw[List.take_take,Nat.min_eq_left h]
 rw[<- e,zy]
theorem iX {l:List xD}{c x:Nat}{t:xD}(h:t∈(l.take x).drop c):∃j,c<=j/\j<x/\l[j]? = some t:=by
 obtain ⟨j,hj,e⟩:=aZ h
 rw[zg] at e
 split at e
 ·exact ⟨j,hj,by omega,e⟩
 ·cases e
theorem MV.rq {a b o:Array xD}{x y c:Nat}(m:MV key a b o x y)(hc:c<=x)(ha:a.toList.Pairwise (Le key))(hb:∀j p,c<=j->j<x->a.toList[j]? = some p->∀t∈b.toList.take y,Le key t p):MV key a b (o++(a.extract c x).reverse) c y:=by
 refine m.take (t:=(a.toList.take x).drop c) (by rw[xY,AH,zS,CZ,oF _ _ _ m.hx]) (ye hc m.hx) m.hy ?_ ?_ λp hp q hq =>?_
 ·refine List.Perm.trans ?_ (zK _ (List.Perm.of_eq (oG a.toList hc).symm))
  rw[xU,xU]
  exact zx _ Ap
 ·exact ha.sublist ((yC _ _).trans (yA _ _))
 ·obtain ⟨j,h1,h2,e⟩:=iX hq
  rcases xx.mp hp with r | r
  ·obtain ⟨i,hi,e2⟩:=ba r
   exact aM ha e2 e (by lia)
  ·exact hb j q h1 h2 e p r
theorem MV.rz {a b o:Array xD}{x y c:Nat}(m:MV key a b o x y)(hc:c<=y)(hb:b.toList.Pairwise (Le key))(ha:∀j p,c<=j->j<y->b.toList[j]? = some p->∀t∈a.toList.take x,Le key t p):MV key a b (o++(b.extract c y).reverse) x c:=by
 refine m.take (t:=(b.toList.take y).drop c) (by rw[xY,AH,zS,CZ,oF _ _ _ m.hy]) m.hx (ye hc m.hy) ?_ ?_ λp hp q hq =>?_
 ·rw[xU, <- oG b.toList hc]
 ·exact hb.sublist ((yC _ _).trans (yA _ _))
 ·obtain ⟨j,h1,h2,e⟩:=iX hq
  rcases xx.mp hp with r | r
  ·exact ha j q h1 h2 e p r
  ·obtain ⟨i,hi,e2⟩:=ba r
   exact aM hb e2 e (by lia)
theorem MV.pY {a b o:Array xD}{x y:Nat}(m:MV key a b o x y)(hb:b.toList.Pairwise (Le key))(hx:x=0):dy key a b (a.extract 0 x++b.extract 0 y++o.reverse):=by
 subst hx
 refine m.fin (t:=b.toList.take y) (by rw[xY,xY,fA,fA,zS,BU,AU]) (by rw[BU,AU]) (hb.sublist (yA _ _))
theorem MV.pX {a b o:Array xD}{x y:Nat}(m:MV key a b o x y)(ha:a.toList.Pairwise (Le key))(hy:y=0):dy key a b (a.extract 0 x++b.extract 0 y++o.reverse):=by
 subst hy
 refine m.fin (t:=a.toList.take x) (by rw[xY,xY,fA,fA,zS,BU,yu]) (by rw[BU,yu]) (ha.sublist (yA _ _))
theorem MV.first {a b o:Array xD}{x y:Nat}(m:MV key a b o x y)(ha:a.toList.Pairwise (Le key))(hb:b.toList.Pairwise (Le key))(hy:y=1)(hl:∀p q,b[0]? = some p->q∈a.toList->Le key p q):dy key a b (b.extract 0 y++a.extract 0 x++o.reverse):=by
 refine m.fin (t:=b.toList.take y++a.toList.take x) (by rw[xY,xY,fA,fA,zS]) Ap ?_
 refine yR.mpr ⟨hb.sublist (yA _ _),ha.sublist (yA _ _),λp hp q hq=>hl p q ?_ (zD hq)⟩
 obtain ⟨i,hi,e⟩:=ba hp
 rw[xy] at e
 rw[show i=0 by lia] at e
 exact e
theorem MV.size {a b o:Array xD}{x y:Nat}(m:MV key a b o x y):o.size+x+y=a.size+b.size:=by
 have e:=m.perm.length_eq
 have h1:=m.hx
 have h2:=m.hy
 simp only[w9,yy,xk,z8] at e
 lia
end
open PySem PyProof.Rows
section
variable  {prog:xA}{w:xQ}{A:yh}{E:xb->xh->Prop}{s:xh}{O:BN}{key:xD->O.α}{U:xD->Prop}{κ:SortKind}
abbrev HiC:=Option (Array xD)×Nat×Nat×Array xD×Nat×Nat×Nat
def tJ (a b:Array xD)(x y:Nat)(o:Array xD)(mg ac bc:Nat):StateT xP Sem (ForInStep HiC):=do
  let z ← elem' a (x-1)
  if (x-1 == 0)=true then pure (.done (some (a.extract 0 (x-1)++b.extract 0 y++(o.push z).reverse),x-1,y,o.push z,mg,ac,bc))
  else if (decide (ac<7) && decide (bc<7))=true then pure (.done (none,x-1,y,o.push z,mg,ac,bc))
  else pure (.yield (none,x-1,y,o.push z,mg,ac,bc))
def tK (a b:Array xD)(x y:Nat)(o:Array xD)(mg ac bc:Nat):StateT xP Sem (ForInStep HiC):=do
  let z ← elem' b (y-1)
  if (y-1 == 1)=true then pure (.done (some (b.extract 0 (y-1)++a.extract 0 x++(o.push z).reverse),x,y-1,o.push z,mg,ac,bc))
  else do
    let z2 ← elem' a (x-1)
    let __x ← gal true z2 b 0 (y-1) (y-1-1)
    match __x with
    | some c =>
      if y-1-c>0 then
        if (c == 1)=true then pure (.done (some (b.extract 0 c++a.extract 0 x++(o.push z++(b.extract c (y-1)).reverse).reverse),x,c,o.push z++(b.extract c (y-1)).reverse,mg,ac,y-1-c))
        else if (c == 0)=true then pure (.done (some (a.extract 0 x++b.extract 0 c++(o.push z++(b.extract c (y-1)).reverse).reverse),x,c,o.push z++(b.extract c (y-1)).reverse,mg,ac,y-1-c))
        else tJ a b x c (o.push z++(b.extract c (y-1)).reverse) mg ac (y-1-c)
      else tJ a b x (y-1) (o.push z) mg ac (y-1-c)
    | _=>pure (.done (some (a.extract 0 x++b.extract 0 (y-1)++(o.push z).reverse),x,y-1,o.push z,mg,ac,bc))
def p6 (a b:Array xD)(x y:Nat)(p:Array xD)(ac bc mg:Nat):StateT xP Sem (ForInStep HiC):=do
  modify (λs=>SortSt.mk' (kindOf s) (xI s) (xO s) mg (failedOf s))
  let z ← elem' b (y-1)
  let __x ← gal false z a 0 x (x-1)
  match __x with
  | some c =>
    if x-c>0 then
      if (c == 0)=true then pure (.done (some (a.extract 0 c++b.extract 0 y++(p++(a.extract c x).reverse).reverse),c,y,p++(a.extract c x).reverse,mg,x-c,bc))
      else tK a b c y (p++(a.extract c x).reverse) mg (x-c) bc
    else tK a b x y p mg (x-c) bc
  | _=>pure (.done (some (a.extract 0 x++b.extract 0 y++p.reverse),x,y,p,mg,ac,bc))
def HiQ (key:xD->O.α)(a b:Array xD)(st:xP)(n:Nat)(r:ForInStep HiC)(st':xP):Prop:=match r with
 | .done c=>Sm st st'/\((∃r x y p mg ac bc,c=(some r,x,y,p,mg,ac,bc)/\dy key a b r)\/∃x y p mg ac bc,c=(none,x,y,p,mg,ac,bc)/\MV key a b p x y/\1<=x/\2<=y/\n<=p.size)
 | .yield c=>Sm st st'/\∃x y p mg ac bc,c=(none,x,y,p,mg,ac,bc)/\MV key a b p x y/\1<=x/\2<=y/\n<=p.size
theorem HiQ.out {a b:Array xD}{st st':xP}{n:Nat}{r:Array xD}{c:Nat×Nat×Array xD×Nat×Nat×Nat}(sm:Sm st st')(f:dy key a b r):HiQ key a b st n (.done (some r,c)) st':=by
 obtain ⟨p,x,y,mg,ac,bc⟩:=c
 exact ⟨sm,.inl ⟨_,_,_,_,_,_,_,rfl,f⟩⟩
theorem rC {x:Nat}(c:¬ (x == 0)=true):1<=x:=Dp λz=>c (beq_iff_eq.mpr z)
theorem tL {y:Nat}(h:1<=y)(c:¬ (y == 1)=true):2<=y:=Dn h λz=>c (beq_iff_eq.mpr z.symm)
theorem oH {a b:Array xD}{st st':xP}(hb:b.toList.Pairwise (Le key))
  {o:Array xD} {x y mg ac bc n:Nat} {za:xD} (sm:Sm st st') (ea:a[x-1]? = some za) (m4:MV key a b (o.push za) (x-1) y) (hy:2<=y) (hn:n<=o.size):wpS (xT prog w) A E s (tJ a b x y o mg ac bc) (HiQ key a b st n) st':=by
 unfold tJ
 refine xC (a6 ea ?_)
 by_cases d5:(x-1 == 0)=true
 ·rw[if_pos d5]
  exact xG (HiQ.out sm (m4.pY hb (beq_iff_eq.mp d5)))
 rw[if_neg d5]
 have hx2:=rC d5
 have hn':n<=(o.push za).size:=by rw[zW];exact A9 hn
 split
 ·exact xG ⟨sm,.inr ⟨_,_,_,_,_,_,rfl,m4,hx2,hy,hn'⟩⟩
 ·exact xG ⟨sm,_,_,_,_,_,_,rfl,m4,hx2,hy,hn'⟩
theorem oI (C:Cmp prog w A s O key U κ){a b:Array xD}{st st':xP}(hκ:kindOf st=κ)(ua:∀p∈a.toList,U p)(ub:∀p∈b.toList,U p)
  (ha:a.toList.Pairwise (Le key)) (hb:b.toList.Pairwise (Le key)) (h0:∀p q,b[0]? = some p->q∈a.toList->Le key p q)
  {o:Array xD} {x y mg ac bc n:Nat} {zb:xD} (sm:Sm st st') (eb:b[y-1]? = some zb) (mk:MV key a b o x y) (bl:∀t∈a.toList.take x,Le key t zb) (hx1:1<=x) (hy:2<=y) (hn:n<=o.size):wpS (xT prog w) A E s (tK a b x y o mg ac bc) (HiQ key a b st n) st':=by
 unfold tK
 refine xC (a6 eb ?_)
 have m2:=mk.j0 (DF hy) eb hb bl
 have y1:1<=y-1:=zE hy
 have bx1:=mk.hx
 have by1:=mk.hy
 by_cases d3:(y-1 == 1)=true
 ·rw[if_pos d3]
  exact xG (HiQ.out sm (m2.first ha hb (beq_iff_eq.mp d3) h0))
 rw[if_neg d3]
 have hy1:=tL y1 d3
 obtain ⟨za,ea⟩:=a9 (show x-1<a.size by lia)
 refine xC (a6 ea ?_)
 refine xC (vt C (λi=>(b[i]?).getD za) (sm.k.trans hκ) (ua _ (bI ea)) (λi hi =>?_) (λi hi =>?_) (λi j hij hj =>?_) (Bm y1) λc2 hc2 g1 g2 =>?_)
 ·obtain ⟨z,e⟩:=a9 (show i<b.size by lia)
  rw[z5,e];rfl
 ·obtain ⟨z,e⟩:=a9 (show i<b.size by lia)
  rw[e];exact ub _ (bI e)
 ·obtain ⟨z,e⟩:=a9 (show i<b.size by lia)
  obtain ⟨z',e'⟩:=a9 (show j<b.size by lia)
  rw[e,e'];exact aM hb (aJ e) (aJ e') hij
 dsimp only at g1 g2 ⊢
 have tb:∀j q,c2<=j->j<y-1->b.toList[j]? = some q->∀t∈a.toList.take x,Le key t q:=λj q hj hj2 e t ht=>by
  have z:=g2 j hj hj2
  rw[xy] at e
  rw[e] at z
  obtain ⟨n,hn,e2⟩:=ba ht
  exact xX (aM ha e2 (aJ ea) (zE hn)) z
 have m3:=m2.rz hc2 hb tb
 have bl2:∀t∈b.toList.take c2,Le key t za:=λt ht=>by
  obtain ⟨n,hn,e2⟩:=ba ht
  rw[xy] at e2
  have z:=g1 n hn
  rw[e2] at z
  exact yP z
 have hn1:n<=(o.push zb).size:=by rw[zW];exact A9 hn
 by_cases k2:y-1-c2>0
 ·rw[if_pos k2]
  by_cases d4:(c2 == 1)=true
  ·rw[if_pos d4]
   exact xG (HiQ.out sm (m3.first ha hb (beq_iff_eq.mp d4) h0))
  rw[if_neg d4]
  by_cases d6:(c2 == 0)=true
  ·rw[if_pos d6]
   exact xG (HiQ.out sm (m3.pX ha (beq_iff_eq.mp d6)))
  rw[if_neg d6]
  exact oH hb sm ea (m3.ij hx1 ea ha bl2) (tL (rC d6) d4) (ye hn1 (by rw[Au];exact zN _ _))
 ·rw[if_neg k2]
  have ec2:c2=y-1:=CB hc2 (CC (Ae k2))
  rw[ec2] at bl2
  exact oH hb sm ea (m2.ij hx1 ea ha bl2) hy1 hn1
theorem oJ (C:Cmp prog w A s O key U κ){a b:Array xD}{st st':xP}(hκ:kindOf st=κ)(ua:∀p∈a.toList,U p)(ub:∀p∈b.toList,U p)
  (ha:a.toList.Pairwise (Le key)) (hb:b.toList.Pairwise (Le key)) (h0:∀p q,b[0]? = some p->q∈a.toList->Le key p q)
  {p:Array xD} {x y ac bc n:Nat} (mg:Nat) (sm:Sm st st') (m:MV key a b p x y) (hx:1<=x) (hy:2<=y) (hn:n<=p.size):wpS (xT prog w) A E s (p6 a b x y p ac bc mg) (HiQ key a b st n) st':=by
 unfold p6
 have bx:=m.hx
 have by':=m.hy
 obtain ⟨zb,eb⟩:=a9 (show y-1<b.size by lia)
 refine xC (zI ?_)
 refine xC (a6 eb ?_)
 refine xC (vq C (λi=>(a[i]?).getD zb) ((sm.mg _).k.trans hκ) (ub _ (bI eb)) (λi hi =>?_) (λi hi =>?_) (λi j hij hj =>?_) (Bm hx) λc hc h1 h2 =>?_)
 ·obtain ⟨z,e⟩:=a9 (xH hi bx)
  rw[z5,e];rfl
 ·obtain ⟨z,e⟩:=a9 (xH hi bx)
  rw[e];exact ua _ (bI e)
 ·obtain ⟨z,e⟩:=a9 (show i<a.size by lia)
  obtain ⟨z',e'⟩:=a9 (show j<a.size by lia)
  rw[e,e'];exact aM ha (aJ e) (aJ e') hij
 dsimp only at h1 h2 ⊢
 have ta:∀j q,c<=j->j<x->a.toList[j]? = some q->∀t∈b.toList.take y,Le key t q:=λj q hj hj2 e t ht=>by
  have z:=h2 j hj hj2
  rw[xy] at e
  rw[e] at z
  obtain ⟨n,hn,e2⟩:=ba ht
  exact xX (aM hb e2 (aJ eb) (zE hn)) (yP z)
 have mk:=m.rq hc ha ta
 have bl:∀t∈a.toList.take c,Le key t zb:=λt ht=>by
  obtain ⟨n,hn,e2⟩:=ba ht
  rw[xy] at e2
  have z:=h1 n hn
  rw[e2] at z
  exact z
 by_cases k0:x-c>0
 ·rw[if_pos k0]
  by_cases d1:(c == 0)=true
  ·rw[if_pos d1]
   exact xG (HiQ.out (sm.mg _) (mk.pY hb (beq_iff_eq.mp d1)))
  rw[if_neg d1]
  exact oI C hκ ua ub ha hb h0 (sm.mg _) eb mk bl (rC d1) hy (ye hn (by rw[Au];exact zN _ _))
 ·rw[if_neg k0]
  have ec:c=x:=CB hc (CC (Ae k0))
  rw[ec] at bl
  exact oI C hκ ua ub ha hb h0 (sm.mg _) eb m bl hx hy hn
theorem tM (C:Cmp prog w A s O key U κ){a b:Array xD}{st st':xP}(hκ:kindOf st=κ)(ua:∀p∈a.toList,U p)(ub:∀p∈b.toList,U p)
  (ha:a.toList.Pairwise (Le key)) (hb:b.toList.Pairwise (Le key)) (h0:∀p q,b[0]? = some p->q∈a.toList->Le key p q)
  {p:Array xD} {x y ac bc n mg:Nat} (sm:Sm st st') (m:MV key a b p x y) (hx:1<=x) (hy:2<=y) (hn:n<=p.size):wpS (xT prog w) A E s (if mg>1 then p6 a b x y p ac bc (mg-1) else p6 a b x y p ac bc mg) (HiQ key a b st n) st':=by
 split
 ·exact oJ C hκ ua ub ha hb h0 (mg-1) sm m hx hy hn
 ·exact oJ C hκ ua ub ha hb h0 mg sm m hx hy hn
abbrev HiD:=Option (Array xD)×Nat×Nat×Array xD×Nat×Nat
abbrev HiE:=Option (Array xD)×Nat×Nat×Array xD×Nat
def rD (a b:Array xD)(mg:Nat)(c:HiD):StateT xP Sem (ForInStep HiD):=do
  let u ← elem' b (c.2.2.1-1)
  let v ← elem' a (c.2.1-1)
  let __x ← lt' u v
  match __x with
  | some aw =>
    if aw=true then do
      let z ← elem' a (c.2.1-1)
      if (c.2.1-1 == 0)=true then pure (.done (some (a.extract 0 (c.2.1-1)++b.extract 0 c.2.2.1++(c.2.2.2.1.push z).reverse),c.2.1-1,c.2.2.1,c.2.2.2.1.push z,c.2.2.2.2.1+1,0))
      else if c.2.2.2.2.1+1≥mg then pure (.done (none,c.2.1-1,c.2.2.1,c.2.2.2.1.push z,c.2.2.2.2.1+1,0))
      else pure (.yield (none,c.2.1-1,c.2.2.1,c.2.2.2.1.push z,c.2.2.2.2.1+1,0))
    else do
      let z ← elem' b (c.2.2.1-1)
      if (c.2.2.1-1 == 1)=true then pure (.done (some (b.extract 0 (c.2.2.1-1)++a.extract 0 c.2.1++(c.2.2.2.1.push z).reverse),c.2.1,c.2.2.1-1,c.2.2.2.1.push z,0,c.2.2.2.2.2+1))
      else if c.2.2.2.2.2+1≥mg then pure (.done (none,c.2.1,c.2.2.1-1,c.2.2.2.1.push z,0,c.2.2.2.2.2+1))
      else pure (.yield (none,c.2.1,c.2.2.1-1,c.2.2.2.1.push z,0,c.2.2.2.2.2+1))
  | _=>pure (.done (some (a.extract 0 c.2.1++b.extract 0 c.2.2.1++c.2.2.2.1.reverse),c.2.1,c.2.2.1,c.2.2.2.1,c.2.2.2.2.1,c.2.2.2.2.2))
def vx (a b:Array xD)(c:HiC):StateT xP Sem (ForInStep HiC) :=
 if c.2.2.2.2.1>1 then p6 a b c.2.1 c.2.2.1 c.2.2.2.1 c.2.2.2.2.2.1 c.2.2.2.2.2.2 (c.2.2.2.2.1-1) else p6 a b c.2.1 c.2.2.1 c.2.2.2.1 c.2.2.2.2.2.1 c.2.2.2.2.2.2 c.2.2.2.2.1
def nr (a b:Array xD)(c:HiE):StateT xP Sem (ForInStep HiE):=do
  let d ← forIn [0:a.size+b.size] ((none,c.2.1,c.2.2.1,c.2.2.2.1,0,0):HiD) λ_ d=>rD a b c.2.2.2.2 d
  match d.1 with
  | some r=>pure (.done (some r,d.2.1,d.2.2.1,d.2.2.2.1,c.2.2.2.2))
  | none=>do
    rule "list.sort.gallop"
    let e ← forIn [0:a.size+b.size] ((none,d.2.1,d.2.2.1,d.2.2.2.1,c.2.2.2.2+1,d.2.2.2.2.1,d.2.2.2.2.2):HiC) λ_ e=>vx a b e
    match e.1 with
    | some r=>pure (.done (some r,e.2.1,e.2.2.1,e.2.2.2.1,e.2.2.2.2.1))
    | none=>do
      modify (λs=>SortSt.mk' (kindOf s) (xI s) (xO s) (e.2.2.2.2.1+1) (failedOf s))
      pure (.yield (none,e.2.1,e.2.2.1,e.2.2.2.1,e.2.2.2.2.1+1))
theorem tN (a b:Array xD):mHi a b=(do
    rule "list.sort.merge-hi"
    let z ← elem' a (a.size-1)
    if (a.size-1 == 0)=true then pure (a.extract 0 (a.size-1)++b.extract 0 b.size++(#[z]:Array xD).reverse)
    else if (b.size == 1)=true then pure (b.extract 0 b.size++a.extract 0 (a.size-1)++(#[z]:Array xD).reverse)
    else do
      let g ← get
      let c ← forIn [0:a.size+b.size] ((none,a.size-1,b.size, #[z],gallopOf g):HiE) λ_ c=>nr a b c
      match c.1 with
      | some r=>pure r
      | none=>unsupported "internal:list.sort.merge-bound"):=by
  kernel_rfl
def HdI (key:xD->O.α)(a b:Array xD)(st:xP)(n:Nat)(c:HiD)(st':xP):Prop:=Sm st st'/\∃x y o' ac bc,c=(none,x,y,o',ac,bc)/\MV key a b o' x y/\1<=x/\2<=y/\n<=o'.size
def HdQ (key:xD->O.α)(a b:Array xD)(st:xP)(n:Nat)(c:HiD)(st':xP):Prop:=Sm st st'/\((∃r x y o ac bc,c=(some r,x,y,o,ac,bc)/\dy key a b r)\/∃x y o' ac bc,c=(none,x,y,o',ac,bc)/\MV key a b o' x y/\1<=x/\2<=y/\n<=o'.size)
theorem rE (C:Cmp prog w A s O key U κ){a b:Array xD}{st st':xP}(hκ:kindOf st=κ)(ua:∀p∈a.toList,U p)(ub:∀p∈b.toList,U p)
  (ha:a.toList.Pairwise (Le key)) (hb:b.toList.Pairwise (Le key)) (h0:∀p q,b[0]? = some p->q∈a.toList->Le key p q)
  {mg n m':Nat} {c:HiD} (I:HdI key a b st n c st') (hm:m'<=n+1) {Q:ForInStep HiD->xP->Prop} (h:∀r st',(match r with | .done c'=>HdQ key a b st (n+1) c' st' | .yield c'=>HdI key a b st m' c' st')->Q r st'):wpS (xT prog w) A E s (rD a b mg c) Q st':=by
 obtain ⟨sm2,x,y,o',ac,bc,rfl,m,hx,hy,hz⟩:=I
 unfold rD
 have bx:=m.hx
 have by':=m.hy
 obtain ⟨za,ea⟩:=a9 (show x-1<a.size by omega)
 obtain ⟨zb,eb⟩:=a9 (show y-1<b.size by omega)
 refine xC (a6 eb (xC (a6 ea (xC (C.lt _ st' zb za _ (sm2.k.trans hκ) (ub _ (bI eb)) (ua _ (bI ea)) ?_)))))
 dsimp only
 have sz:∀z,n+1<=(o'.push z).size:=λz=>by rw[zW];exact DV hz
 cases hlt:O.blt (key zb) (key za) with
 | true =>
  rw[if_pos rfl]
  refine xC (a6 ea ?_)
  have m1:=m.ij hx ea ha λt ht=>by
   obtain ⟨n,hn,e⟩:=ba ht
   exact xX (aM hb e (aJ eb) (zE hn)) (yP hlt)
  by_cases c3:(x-1 == 0)=true
  ·rw[if_pos c3]
   exact xG (h _ _ ⟨sm2,.inl ⟨_,_,_,_,_,_,rfl,m1.pY hb (beq_iff_eq.mp c3)⟩⟩)
  ·rw[if_neg c3]
   have c3':=rC c3
   split
   ·exact xG (h _ _ ⟨sm2,.inr ⟨_,_,_,_,_,rfl,m1,c3',hy,sz _⟩⟩)
   ·exact xG (h _ _ ⟨sm2,_,_,_,_,_,rfl,m1,c3',hy,ye hm (sz _)⟩)
 | false =>
  rw[if_neg xw]
  refine xC (a6 eb ?_)
  have m1:=m.j0 (DF hy) eb hb λt ht=>by
   obtain ⟨n,hn,e⟩:=ba ht
   exact xX (aM ha e (aJ ea) (zE hn)) (show O.kle (key za) (key zb) from hlt)
  by_cases c3:(y-1 == 1)=true
  ·rw[if_pos c3]
   exact xG (h _ _ ⟨sm2,.inl ⟨_,_,_,_,_,_,rfl,m1.first ha hb (beq_iff_eq.mp c3) h0⟩⟩)
  ·rw[if_neg c3]
   have c3':=tL (zE hy) c3
   split
   ·exact xG (h _ _ ⟨sm2,.inr ⟨_,_,_,_,_,rfl,m1,hx,c3',sz _⟩⟩)
   ·exact xG (h _ _ ⟨sm2,_,_,_,_,_,rfl,m1,hx,c3',ye hm (sz _)⟩)
def HeI (key:xD->O.α)(a b:Array xD)(st:xP)(n:Nat)(c:HiE)(st':xP):Prop:=Sm st st'/\∃x y o mg,c=(none,x,y,o,mg)/\MV key a b o x y/\1<=x/\2<=y/\n+1<=o.size
def HeQ (key:xD->O.α)(a b:Array xD)(st:xP)(c:HiE)(st':xP):Prop:=Sm st st'/\((∃r x y o mg,c=(some r,x,y,o,mg)/\dy key a b r)\/∃x y o mg,c=(none,x,y,o,mg)/\MV key a b o x y/\1<=x/\2<=y/\a.size+b.size+1<=o.size)
theorem p7 (C:Cmp prog w A s O key U κ){a b:Array xD}{st st':xP}(hκ:kindOf st=κ)(ua:∀p∈a.toList,U p)(ub:∀p∈b.toList,U p)
  (ha:a.toList.Pairwise (Le key)) (hb:b.toList.Pairwise (Le key)) (h0:∀p q,b[0]? = some p->q∈a.toList->Le key p q) (na:0<a.size)
  {n:Nat} {c:HiE} (I:HeI key a b st n c st'):wpS (xT prog w) A E s (nr a b c) (λr st'=>match r with | .done c'=>HeQ key a b st c' st' | .yield c'=>HeI key a b st (n+1) c' st') st':=by
 obtain ⟨sm1,x,y,o,mg,rfl,m,hx,hy,hz⟩:=I
 unfold nr
 have q1:1<=a.size+b.size:=ye na (zN _ _)
 refine xC (zv (yH (I:=λj c st'=>HdI key a b st (o.size+min j 1) c st') (Q:=HdQ key a b st (o.size+1)) (λj c st2 _ hj J=>rE (n:=o.size+min j 1) (m':=o.size+min (j+1) 1) C hκ ua ub ha hb h0 J (by lia) λr st' k =>?_) (λc st' J =>?_) ⟨sm1,x,y,o,0,0,rfl,m,hx,hy,xg _⟩) ?_)
 ·cases r with
  | done c'=>exact k.imp id λz=>z.imp id λ⟨x,y,o',ac,bc,e,m,hx,hy,hz⟩=>⟨x,y,o',ac,bc,e,m,hx,hy,by lia⟩
  | yield c'=>exact k
 ·obtain ⟨sm,x,y,o',ac,bc,e,m,hx,hy,hz⟩:=J
  exact ⟨sm,.inr ⟨x,y,o',ac,bc,e,m,hx,hy,by lia⟩⟩
 rintro c st2 ⟨sm2,⟨r,x,y,o',ac,bc,rfl,fr⟩ | ⟨x,y,o',ac,bc,rfl,m,hx,hy,hz2⟩⟩
 ·exact xG ⟨sm2,.inl ⟨_,_,_,_,_,rfl,fr⟩⟩
 dsimp only
 refine xC (CV (Ay ⟨rfl,?_⟩))
 refine xC (zv (yH (I:=λ_ c st'=>HiQ key a b st o'.size (.yield c) st') (Q:=λc st'=>HiQ key a b st o'.size (.done c) st') (λj c st3 _ hj J =>?_) (λc st' J=>⟨J.1,.inr J.2⟩) ⟨sm2,x,y,o',_,ac,bc,rfl,m,hx,hy,xg _⟩) ?_)
 ·obtain ⟨sm3,x,y,p,mg,ac,bc,rfl,m,hx,hy,hz3⟩:=J
  refine zv (tM C hκ ua ub ha hb h0 sm3 m hx hy hz3) ?_
  intro r st' h
  cases r <;> exact h
 rintro c st3 ⟨sm3,⟨r,x,y,p,mg,ac,bc,rfl,fr⟩ | ⟨x,y,p,mg,ac,bc,rfl,m,hx,hy,hz3⟩⟩
 ·exact xG ⟨sm3,.inl ⟨_,_,_,_,_,rfl,fr⟩⟩
 ·dsimp only
  exact xC (zI (xG ⟨sm3.mg _,x,y,p,_,rfl,m,hx,hy,by lia⟩))
theorem vy (C:Cmp prog w A s O key U κ){a b:Array xD}{st:xP}{Q:Array xD->xP->Prop}(hκ:kindOf st=κ)(ua:∀p∈a.toList,U p)(ub:∀p∈b.toList,U p)
  (ha:a.toList.Pairwise (Le key)) (hb:b.toList.Pairwise (Le key)) (na:0<a.size) (nb:0<b.size) (h0:∀p q,b[0]? = some p->q∈a.toList->Le key p q) (hl:∀p q,p∈b.toList->a[a.size-1]? = some q->Le key p q)
  (h:∀r st',Sm st st'->dy key a b r->Q r st'):wpS (xT prog w) A E s (mHi a b) Q st:=by
 rw[tN]
 refine xC (CV (Ay ⟨rfl,?_⟩))
 obtain ⟨a0,ea0⟩:=a9 (Bm na)
 have m0:MV key a b #[] a.size b.size:=by
  refine ⟨xg _,xg _,?_,List.Pairwise.nil,λp _ q hq=>by cases hq⟩
  rw[yq (by rw[xk];exact xg _),yq (by rw[xk];exact xg _)]
  show (a.toList++b.toList++[]).Perm _
  rw[yu]
 have m1:MV key a b #[a0] (a.size-1) b.size:=m0.ij na ea0 ha λt ht=>hl t a0 (zD ht) ea0
 refine xC (a6 ea0 ?_)
 by_cases c1:(a.size-1 == 0)=true
 ·rw[if_pos c1]
  exact xG (h _ st (Sm.refl st) (m1.pY hb (beq_iff_eq.mp c1)))
 rw[if_neg c1]
 by_cases c2:(b.size == 1)=true
 ·rw[if_pos c2]
  exact xG (h _ st (Sm.refl st) (m1.first ha hb (beq_iff_eq.mp c2) h0))
 rw[if_neg c2]
 refine xC (Cj ?_)
 refine xC (zv (yH (I:=λi c st'=>HeI key a b st i c st') (Q:=HeQ key a b st) (λi c st1 _ _ J=>zv (p7 C hκ ua ub ha hb h0 na J) λr st' h=>by cases r <;> exact h) (λc st' J =>?_) ⟨Sm.refl st,_,_,_,_,rfl,m1,rC c1,tL nb c2,xg _⟩) ?_)
 ·obtain ⟨sm,x,y,o,mg,e,m,hx,hy,hz⟩:=J
  exact ⟨sm,.inr ⟨x,y,o,mg,e,m,hx,hy,by lia⟩⟩
 rintro c st' ⟨sm,⟨r,x,y,o,mg,rfl,fr⟩ | ⟨x,y,o,mg,rfl,m,hx,hy,hz⟩⟩
 ·exact xG (h r st' sm fr)
 ·have:=m.size
  lia
end
open PySem PyProof.Rows
theorem vz (i:Nat):mAt i=(do
    let s ← get
    let (some (sa,na,pw),some (sb,nb,_)):=((xO s)[i]?,(xO s)[i+1]?) | unsupported "internal:list.sort.pending"
    set (SortSt.mk' (kindOf s) (xI s) (((xO s).setIfInBounds i (sa,na+nb,pw)).eraseIdxIfInBounds (i+1)) (gallopOf s) (failedOf s))
    let some k ← gal false (← elem' (xI s) sb) (xI s) sa na 0 | return false
    let (sa,na):=(sa+k,na-k)
    if na == 0 then return true
    let some nb ← gal true (← elem' (xI s) (sa+na-1)) (xI s) sb nb (nb-1) | return false
    if nb == 0 then return true
    let x:=(xI s).extract sa sb
    let y:=(xI s).extract sb (sb+nb)
    let mm ← if na<=nb then mLo x y else mHi x y
    modify λs=>setArr s (mm.toList.zipIdx.foldl (λa (p,j)=>a.setIfInBounds (sa+j) p) (xI s))
    return (failedOf (← get)).isNone):=rfl
theorem gp {α:Type}(p r:List α)(k:Nat):(p++r).drop (p.length+k)=r.drop k:=by
 rw[<- Ed,BV]
theorem nt {α:Type}(p r:List α)(k:Nat):(p++r)[p.length+k]? = r[k]? := by
 rw[zL (by lia),z7]
theorem uJ {α:Type}(p a r:List α){k:Nat}(h:k<a.length):(p++(a++r))[p.length+k]? = a[k]? := by
 rw[nt,zP h]
theorem written (l:List xD):∀(c n:Nat) (a:Array xD),c+n+l.length<=a.size->((l.zipIdx n).foldl (λ(a:Array xD) (pj:xD×Nat)=>a.setIfInBounds (c+pj.2) pj.1) a).toList=a.toList.take (c+n)++l++a.toList.drop (c+n+l.length):=by
 induction l with
 | nil=>intro c n a _;simp
 | cons z l ih =>
  intro c n a h
  rw[xV] at h
  rw[List.zipIdx_cons,Cz,ih c (n+1) _ (by rw[B5];lia)]
  have e:(a.setIfInBounds (c+n) z).toList=a.toList.set (c+n) z:=BE ..
  rw[e]
  have lt:c+n<a.toList.length:=by rw[xk];lia
  have t1:(a.toList.set (c+n) z).take (c+(n+1))=a.toList.take (c+n)++[z]:=by
   rw[show c+(n+1)=c+n+1 by lia,y8,List.take_set_of_le (xg _),A5 lt]
   rfl
  have t2:(a.toList.set (c+n) z).drop (c+(n+1)+l.length)=a.toList.drop (c+n+(l.length+1)):=by
   rw[List.drop_set_of_lt (by lia),show c+(n+1)+l.length=c+n+(l.length+1) by lia]
  rw[t1,t2,xV]
  simp
section
variable  {prog:xA}{w:xQ}{A:yh}{E:xb->xh->Prop}{s:xh}{O:BN}{key:xD->O.α}{U:xD->Prop}{κ:SortKind}
theorem vA (C:Cmp prog w A s O key U κ){i pw pw2:Nat}{st:xP}{Q:Bool->xP->Prop}{P X Y S:List xD}(hκ:kindOf st=κ)(hf:failedOf st=none)
    (ha:(xI st).toList=P++(X++(Y++S))) (hu:∀p∈(xI st).toList,U p) (h1:(xO st)[i]? = some (P.length,X.length,pw)) (h2:(xO st)[i+1]? = some (P.length+X.length,Y.length,pw2))
    (nx:0<X.length) (ny:0<Y.length) (sx:X.Pairwise (Le key)) (sy:Y.Pairwise (Le key))
    (h:∀st' M,M.Perm (X++Y)->M.Pairwise (Le key)->(xI st').toList=P++(M++S)->xO st'=((xO st).setIfInBounds i (P.length,X.length+Y.length,pw)).eraseIdxIfInBounds (i+1)->kindOf st'=κ -> failedOf st'=none->Q true st') :
    wpS (xT prog w) A E s (mAt i) Q st:=by
  rw[vz]
  refine xC (Cj ?_)
  rw[h1,h2]
  dsimp only
  refine xC (show wpS (xT prog w) A E s (modify λ_=>SortSt.mk' (kindOf st) (xI st) (((xO st).setIfInBounds i (P.length,X.length+Y.length,pw)).eraseIdxIfInBounds (i+1)) (gallopOf st) (failedOf st)) _ st from zI ?_)
  generalize hst1:SortSt.mk' (kindOf st) (xI st) (((xO st).setIfInBounds i (P.length,X.length+Y.length,pw)).eraseIdxIfInBounds (i+1)) (gallopOf st) (failedOf st)=st1
  have k1:kindOf st1=κ:=by rw[<- hst1];exact hκ
  have a1:xI st1=xI st:=by rw[<- hst1]
  have p1:xO st1=((xO st).setIfInBounds i (P.length,X.length+Y.length,pw)).eraseIdxIfInBounds (i+1):=by rw[<- hst1]
  have f1:failedOf st1=none:=by rw[<- hst1];exact hf
  have sz:(xI st).size=P.length+X.length+Y.length+S.length:=by
    rw[<- xk,ha];simp only[w9];lia
  have atX:∀j,j<X.length->(xI st)[P.length+j]? = X[j]? := λj hj=>by
    rw[<- xy,ha,uJ _ _ _ hj]
  have atY:∀j,j<Y.length->(xI st)[P.length+X.length+j]? = Y[j]? := λj hj=>by
    rw[<- xy,ha, <- xU,show P.length+X.length+j=(P++X).length+j by rw[w9],uJ _ _ _ hj]
  have uX:∀p∈X,U p:=λp hp=>hu p (by rw[ha];simp[hp])
  have uY:∀p∈Y,U p:=λp hp=>hu p (by rw[ha];simp[hp])
  have xget:∀j,j<X.length->∃z,X[j]? = some z:=λj hj=>⟨X[j],by simp[hj]⟩
  have yget:∀j,j<Y.length->∃z,Y[j]? = some z:=λj hj=>⟨Y[j],by simp[hj]⟩
  obtain ⟨y0,ey0⟩:=yget 0 ny
  have plain:(∀p∈X,∀q∈Y,Le key p q)->Q true st1:=λhle=>h st1 (X++Y) (BR _) (yR.mpr ⟨sx,sy,hle⟩) (by rw[a1,ha,xU]) p1 k1 f1
  refine xC (a6 (z:=y0) (by rw[show P.length+X.length=P.length+X.length+0 by lia,atY 0 ny];exact ey0) ?_)
  refine xC (vq C (λj=>(X[j]?).getD y0) k1 (uY _ (xE ey0)) (λj hj =>?_) (λj hj =>?_) (λi j hij hj =>?_) nx λk hk g1 g2 =>?_)
  · obtain ⟨z,e⟩:=xget j hj
    rw[atX j hj,e];rfl
  · obtain ⟨z,e⟩:=xget j hj
    rw[e];exact uX _ (xE e)
  · obtain ⟨z,e⟩:=xget i (by lia)
    obtain ⟨z',e'⟩:=xget j hj
    rw[e,e'];exact aM sx e e' hij
  dsimp only at g1 g2 ⊢
  have y0le:∀q∈Y,Le key y0 q:=λq hq=>by
    obtain ⟨n,e⟩:=yn.mp hq
    exact aM sy ey0 e (yk _)
  by_cases c1:(X.length-k == 0)=true
  · rw[if_pos c1]
    refine xG (plain λp hp q hq =>?_)
    obtain ⟨n,e⟩:=yn.mp hp
    have hn:n<X.length:=(xv.mp e).1
    have z:=g1 n (by have:=beq_iff_eq.mp c1;lia)
    rw[e] at z
    exact xX z (y0le q hq)
  rw[if_neg c1]
  have kx:k<X.length:=by have:X.length-k≠0:=λz=>c1 (beq_iff_eq.mpr z);lia
  obtain ⟨xl,exl⟩:=xget (X.length-1) (by lia)
  have xlle:∀p∈X,Le key p xl:=λp hp=>by
    obtain ⟨n,e⟩:=yn.mp hp
    have hn:n<X.length:=(xv.mp e).1
    exact aM sx e exl (by lia)
  refine xC (a6 (z:=xl) (by rw[show P.length+k+(X.length-k)-1=P.length+(X.length-1) by lia,atX _ (by lia)];exact exl) ?_)
  refine xC (vt C (λj=>(Y[j]?).getD xl) k1 (uX _ (xE exl)) (λj hj =>?_) (λj hj =>?_) (λi j hij hj =>?_) (by lia) λm hm e1 e2 =>?_)
  · obtain ⟨z,e⟩:=yget j hj
    rw[atY j hj,e];rfl
  · obtain ⟨z,e⟩:=yget j hj
    rw[e];exact uY _ (xE e)
  · obtain ⟨z,e⟩:=yget i (by lia)
    obtain ⟨z',e'⟩:=yget j hj
    rw[e,e'];exact aM sy e e' hij
  dsimp only at e1 e2 ⊢
  by_cases c2:(m == 0)=true
  · rw[if_pos c2]
    refine xG (plain λp hp q hq =>?_)
    obtain ⟨n,e⟩:=yn.mp hq
    have hn:n<Y.length:=(xv.mp e).1
    have z:=e2 n (by have:=beq_iff_eq.mp c2;lia) hn
    rw[e] at z
    exact xX (xlle p hp) z
  rw[if_neg c2]
  have m0:0<m:=by have:m≠0:=λz=>c2 (beq_iff_eq.mpr z);lia
  have ex:((xI st).extract (P.length+k) (P.length+X.length)).toList=X.drop k:=by
    rw[zB,yZ,ha,gp,Ac (by lia)]
    rw[List.take_left' (by rw[y3];lia)]
  have ey:((xI st).extract (P.length+X.length) (P.length+X.length+m)).toList=Y.take m:=by
    have e:=gp (P++X) (Y++S) 0
    rw[w9,Nat.add_zero,BS,xU] at e
    rw[zB,yZ,ha,e,z7,Bg hm]
  have sX:((xI st).extract (P.length+k) (P.length+X.length)).size=X.length-k:=by rw[<- xk,ex,y3]
  have sY:((xI st).extract (P.length+X.length) (P.length+X.length+m)).size=m:=by rw[<- xk,ey,yy];lia
  generalize (xI st).extract (P.length+k) (P.length+X.length)=xa at ex sX ⊢
  generalize (xI st).extract (P.length+X.length) (P.length+X.length+m)=ya at ey sY ⊢
  have xa0:∀q∈xa.toList,Le key y0 q:=λq hq=>by
    rw[ex] at hq
    obtain ⟨n,hn,e⟩:=aZ hq
    have hn2:n<X.length:=(xv.mp e).1
    have z:=g2 n hn hn2
    rw[e] at z
    exact yP z
  have yaL:∀p∈ya.toList,Le key p xl:=λp hp=>by
    rw[ey] at hp
    obtain ⟨n,hn,e⟩:=ba hp
    have z:=e1 n hn
    rw[e] at z
    exact yP z
  have first:∀p q,ya[0]? = some p->q∈xa.toList->Le key p q:=λp q hp hq=>by
    rw[<- xy,ey,zg,if_pos m0,ey0] at hp
    cases hp
    exact xa0 q hq
  have lst:∀p q,p∈ya.toList->xa[xa.size-1]? = some q->Le key p q:=λp q hp hq=>by
    rw[<- xy,ex,Ai,sX,show k+(X.length-k-1)=X.length-1 by lia,exl] at hq
    cases hq
    exact yaL p hp
  have sxa:xa.toList.Pairwise (Le key):=by rw[ex];exact sx.sublist (yC _ _)
  have sya:ya.toList.Pairwise (Le key):=by rw[ey];exact sy.sublist (yA _ _)
  have uxa:∀p∈xa.toList,U p:=λp hp=>by rw[ex] at hp;exact uX p (zC hp)
  have uya:∀p∈ya.toList,U p:=λp hp=>by rw[ey] at hp;exact uY p (zD hp)
  have post:∀r st',Sm st1 st'->dy key xa ya r->wpS (xT prog w) A E s (do modify λs=>setArr s (r.toList.zipIdx.foldl (λa (p,j)=>a.setIfInBounds (P.length+k+j) p) (xI s));return (failedOf (← get)).isNone) Q st':=by
    rintro r st' sm ⟨fp,fs⟩
    refine xC (zI (xC (Cj (xG ?_))))
    have rl:r.toList.length=X.length-k+m:=by rw[fp.length_eq,w9,xk,xk,sX,sY]
    have wr:=written r.toList (P.length+k) 0 (xI st') (by rw[sm.a,a1,sz,rl];lia)
    have e:(failedOf (setArr st' (r.toList.zipIdx.foldl (λa (p,j)=>a.setIfInBounds (P.length+k+j) p) (xI st')))).isNone=true:=by
      show (failedOf st').isNone=true
      rw[sm.f,f1];rfl
    rw[e]
    have t1:(P++(X++(Y++S))).take (P.length+k+0)=P++X.take k:=by
      rw[Nat.add_zero,List.take_append,yq (by lia),z7,Bg (by lia)]
    have t2:(P++(X++(Y++S))).drop (P.length+k+0+r.toList.length)=Y.drop m++S:=by
      rw[rl,show P.length+k+0+(X.length-k+m)=P.length+(X.length+m) by lia,gp,gp,Ac hm]
    have perm:(X.take k++(r.toList++Y.drop m)).Perm (X++Y):=by
      rw[ex,ey] at fp
      have q:(X.take k++(r.toList++Y.drop m)).Perm (X.take k++((X.drop k++Y.take m)++Y.drop m)):=zx _ (zK _ fp)
      have e3:X.take k++((X.drop k++Y.take m)++Y.drop m)=X++Y:=by
        rw[xU (X.drop k),zy, <- xU,zy]
      rw[e3] at q
      exact q
    have inr:∀z∈r.toList,z∈X.drop k\/z∈Y.take m:=λz hz=>by
      have q:=fp.mem_iff.mp hz
      rw[ex,ey] at q
      exact xx.mp q
    refine h _ (X.take k++(r.toList++Y.drop m)) perm ?_ ?_ ?_ (sm.k.trans k1) (sm.f.trans f1)
    · refine yR.mpr ⟨sx.sublist (yA _ _),yR.mpr ⟨fs,sy.sublist (yC _ _),λp hp q hq =>?_⟩,λp hp q hq =>?_⟩
      · obtain ⟨n,hn,en⟩:=aZ hq
        have hn2:n<Y.length:=(xv.mp en).1
        rcases inr p hp with z | z
        · have g:=e2 n hn hn2
          rw[en] at g
          exact xX (xlle p (zC z)) g
        · obtain ⟨j,hj,ej⟩:=ba z
          exact aM sy ej en (by lia)
      · obtain ⟨n,hn,en⟩:=ba hp
        have g:=g1 n hn
        rw[en] at g
        rcases xx.mp hq with z | z
        · rcases inr q z with z | z
          · obtain ⟨j,hj,ej⟩:=aZ z
            exact aM sx en ej (by lia)
          · exact xX g (y0le q (zD z))
        · exact xX g (y0le q (zC z))
    · show (r.toList.zipIdx.foldl (λa (p,j)=>a.setIfInBounds (P.length+k+j) p) (xI st')).toList=_
      rw[wr,sm.a,a1,ha,t1,t2]
      simp only[xU]
    · show xO st'=_
      rw[sm.p,p1]
  by_cases c3:X.length-k<=m
  · rw[if_pos c3]
    exact xC (vw C k1 uxa uya sxa sya (by lia) (by lia) (λp q hp hq=>first p q hp (bI hq)) lst λr st' sm fr=>post r st' sm fr)
  · rw[if_neg c3]
    exact xC (vy C k1 uxa uya sxa sya (by lia) (by lia) first lst λr st' sm fr=>post r st' sm fr)
end
open PySem PyProof.Rows
theorem tO (lo m:Nat):vo lo m=(do
    let mut n:=1
    for _ in [1:m] do
      let some sm ← ltAt' (lo+n) (lo+n-1)
        | return none
      if sm then break
      n:=n+1
    if n == m then return some n
    if n>1 then
      let some ro ← ltAt' lo (lo+n-1)
        | return none
      if ro then return some n
      reverseSlice' lo (lo+n)
    rule "list.sort.descending-run"
    n:=n+1
    let mut q:=0
    for _ in [n:m] do
      let some sm ← ltAt' (lo+n) (lo+n-1)
        | return none
      if sm then
        if q>0 then reverseSlice' (lo+n-(q+1)) (lo+n)
        q:=0
      else
        let some lg ← ltAt' (lo+n-1) (lo+n)
          | return none
        if lg then break
        q:=q+1
      n:=n+1
    if q>0 then reverseSlice' (lo+n-(q+1)) (lo+n)
    reverseSlice' lo (lo+n)
    for _ in [n:m] do
      let some sm ← ltAt' (lo+n) (lo+n-1)
        | return none
      if sm then break
      n:=n+1
    return some n):=rfl
theorem rF (lo n ok:Nat):rk lo n ok=(do
    for k in [max ok 1:n] do
      let mut l:=0;let mut r:=k
      for _ in [0:k] do
        if l≥r then break
        let m:=(l+r)/2
        let some le ← ltAt' (lo+k) (lo+m)
          | return false
        if le then r:=m else l:=m+1
      moveDown' (lo+k) (lo+l)
    return true):=rfl
section
variable  {O:BN}(key:xD->O.α)
def kk (xs:Array xD)(i:Nat):O.α:=key ((xs[i]?).getD (zc,zc))
def Up (xs:Array xD)(lo n:Nat):Prop:=∀i j,lo<=i->i<=j->j<lo+n->O.kle (kk key xs i) (kk key xs j)
def Down (xs:Array xD)(lo n:Nat):Prop:=∀i j,lo<=i->i<=j->j<lo+n->O.kle (kk key xs j) (kk key xs i)
variable  {key}
theorem gq {xs ys:Array xD}{i j:Nat}(h:xs[i]? = ys[j]?):kk key xs i=kk key ys j:=by unfold kk;rw[h]
theorem j2 {xs:Array xD}{i j:Nat}(hj:j<=xs.size)(k:Nat):kk key (mirror xs i j ((j-i)/2)) k=if i<=k/\k<j then kk key xs (i+j-1-k) else kk key xs k:=by
 have e:=Dc (i:=i) hj k
 by_cases h:i<=k/\k<j
 ·rw[if_pos h] at e ⊢;exact gq e
 ·rw[if_neg h] at e ⊢;exact gq e
theorem dU {xs:Array xD}{i j:Nat}(hj:j<=xs.size)(he:∀k,i<=k->k<j->kk key xs k=kk key xs (j-1))(k:Nat):kk key (mirror xs i j ((j-i)/2)) k=kk key xs k:=by
 rw[j2 hj]
 split
 ·rw[he _ (by omega) (by omega),he k (by omega) (by omega)]
 ·rfl
end
structure SA (lo:Nat)(st st':xP):Prop where
 perm:(xI st').Perm (xI st)
 pre:∀k,k<lo->(xI st')[k]? = (xI st)[k]?
 k:kindOf st'=kindOf st
 p:xO st'=xO st
 f:failedOf st'=failedOf st
theorem SA.refl (lo:Nat)(st:xP):SA lo st st:=⟨Array.Perm.refl _,λ_ _=>rfl,rfl,rfl,rfl⟩
theorem SA.size {lo:Nat}{st st':xP}(h:SA lo st st'):(xI st').size=(xI st).size:=h.perm.size_eq
theorem SA.mirror {lo:Nat}{st st':xP}(h:SA lo st st'){i j:Nat}(hi:lo<=i)(hj:j<=(xI st').size):SA lo st (setArr st' (mirror (xI st') i j ((j-i)/2))) :=
 ⟨(mirror_perm _ _ _ _).trans h.perm,λk hk=>by
  show (PyProof.Rows.mirror (xI st') i j ((j-i)/2))[k]? = _
  rw[Dc hj,if_neg (by lia)]
  exact h.pre k hk,h.k,h.p,h.f⟩
theorem SA.mem {lo:Nat}{st st':xP}(h:SA lo st st'){p:xD}(hp:p∈(xI st').toList):p∈(xI st).toList:=(BF.mp h.perm).mem_iff.mp hp
section
variable  {prog:xA}{w:xQ}{A:yh}{E:xb->xh->Prop}{s:xh}{O:BN}{key:xD->O.α}{U:xD->Prop}{κ:SortKind}
theorem fB (C:Cmp prog w A s O key U κ){st:xP}{i j:Nat}{Q:Option Bool->xP->Prop}(hκ:kindOf st=κ)(hu:∀p∈(xI st).toList,U p)(hi:i<(xI st).size)(hj:j<(xI st).size)
  (h:Q (some (O.blt (kk key (xI st) i) (kk key (xI st) j))) st):wpS (xT prog w) A E s (ltAt' i j) Q st:=by
 rw[ltAt'_eq]
 refine xC (Cj ?_)
 obtain ⟨x,ex⟩:=a9 hi
 obtain ⟨y,ey⟩:=a9 hj
 dsimp only
 refine xC (a6 ex (xC (a6 ey (C.lt _ st x y _ hκ (hu _ (bI ex)) (hu _ (bI ey)) ?_))))
 unfold kk at h
 rw[ex,ey] at h
 exact h
theorem tP (C:Cmp prog w A s O key U κ){st:xP}{lo m:Nat}{Q:Option Nat->xP->Prop}(hκ:kindOf st=κ)(hu:∀p∈(xI st).toList,U p)(hm:1<=m)(hz:lo+m=(xI st).size)
  (h:∀n st',1<=n->n<=m->SA lo st st'->Up key (xI st') lo n->Q (some n) st'):wpS (xT prog w) A E s (vo lo m) Q st:=by
 rw[tO]
 dsimp only
 refine xC (zv (yH (I:=λx c st'=>st=st'/\c=(none,x)/\Up key (xI st) lo x)
  (Q:=λc st'=>st=st'/\∃n,c=(none,n)/\1<=n/\n<=m/\Up key (xI st) lo n/\(n<m->O.klt (kk key (xI st) (lo+n)) (kk key (xI st) (lo+n-1)))) ?step ?fin ⟨rfl,rfl,λi j h1 h2 h3=>by rw[show i=j by lia];exact zf _⟩) ?post)
 case fin =>
  rintro c st' ⟨rfl,rfl,up⟩
  exact ⟨rfl,_,rfl,by lia,by lia,by rw[show max 1 m=m by lia] at up ⊢;exact up,by lia⟩
 case step =>
  rintro x c st' h1 h2 ⟨rfl,rfl,up⟩
  dsimp only
  refine xC (fB C hκ hu (by lia) (by lia) ?_)
  dsimp only
  cases hb:O.blt (kk key (xI st) (lo+x)) (kk key (xI st) (lo+x-1)) with
  | true =>
   rw[if_pos rfl]
   exact xG ⟨rfl,x,rfl,h1,by lia,up,λ_=>hb⟩
  | false =>
   rw[if_neg (by simp)]
   refine xG ⟨rfl,rfl,λi j k1 k2 k3 =>?_⟩
   by_cases hj:j=lo+x
   ·by_cases hi:i=j
    ·rw[hi];exact zf _
    ·rw[hj]
     exact xX (up i (lo+x-1) k1 (by lia) (by lia)) hb
   ·exact up i j k1 k2 (by lia)
 case post =>
  rintro c st' ⟨rfl,n,rfl,n1,n2,up,br⟩
  dsimp only
  by_cases c1:(n == m)=true
  ·rw[if_pos c1]
   exact xG (h n st n1 n2 (SA.refl _ _) up)
  rw[if_neg c1]
  have nm:n<m:=by have:n≠m:=λz=>c1 (beq_iff_eq.mpr z);lia
  have br:=br nm
  by_cases c2:n>1
  case' pos =>
   rw[if_pos c2]
   refine xC (fB C hκ hu (by lia) (by lia) ?_)
   dsimp only
   cases hro:O.blt (kk key (xI st) lo) (kk key (xI st) (lo+n-1))
   case' true =>
    rw[if_pos rfl]
    exact xG (h n st n1 n2 (SA.refl _ _) up)
   rw[if_neg (by simp)]
   have eqs:∀k,lo<=k->k<lo+n->kk key (xI st) k=kk key (xI st) (lo+n-1):=λk k1 k2 =>
    C5 (up k (lo+n-1) k1 (by lia) (by lia)) (xX (show O.kle (kk key (xI st) (lo+n-1)) (kk key (xI st) lo) from hro) (up lo k (xg _) k1 k2))
   rw[Bj]
   refine xC (zI ?_)
   have sa:=(SA.refl lo st).mirror (i:=lo) (j:=lo+n) (xg _) (by lia)
   have ke:=dU (key:=key) (xs:=xI st) (i:=lo) (j:=lo+n) (by lia) eqs
   have ka:∀k,kk key (xI (setArr st (mirror (xI st) lo (lo+n) ((lo+n-lo)/2)))) k=kk key (xI st) k:=ke
   generalize setArr st (mirror (xI st) lo (lo+n) ((lo+n-lo)/2))=st1 at sa ka ⊢
   clear ke
  case' neg =>
   rw[if_neg c2]
   have eqs:∀k,lo<=k->k<lo+n->kk key (xI st) k=kk key (xI st) (lo+n-1):=λk k1 k2=>by rw[show k=lo+n-1 by lia]
   obtain ⟨st1,e1⟩:∃st1,st1=st:=⟨_,rfl⟩
   have sa:SA lo st st1:=by rw[e1];exact SA.refl _ _
   have ka:∀k,kk key (xI st1) k=kk key (xI st) k:=λk=>by rw[e1]
   rw[<- e1]
   clear e1
  all_goals
   refine xC (CV (Ay ⟨rfl,?_⟩))
   have dn:Down key (xI st1) lo (n+1):=λi j k1 k2 k3=>by
    rw[ka,ka]
    by_cases hj:j=lo+n
    ·by_cases hi:i=j
     ·rw[hi];exact zf _
     ·rw[hj,eqs i k1 (by lia)]
      exact yP br
    ·rw[eqs i k1 (by lia),eqs j (by lia) (by lia)]
     exact zf _
   clear eqs up br ka
   refine xC (zv (yH (I:=λx c st'=>∃q,c=(none,x,q)/\x<=m/\SA lo st st'/\Down key (xI st') lo x/\q+1<=x/\∀k,lo+x-(q+1)<=k->k<lo+x->kk key (xI st') k=kk key (xI st') (lo+x-1))
    (Q:=λc st'=>∃x q,c=(none,x,q)/\1<=x/\x<=m/\SA lo st st'/\Down key (xI st') lo x/\q+1<=x/\∀k,lo+x-(q+1)<=k->k<lo+x->kk key (xI st') k=kk key (xI st') (lo+x-1)) ?step ?fin
    ⟨0,rfl,by lia,sa,dn,by lia,λk k1 k2=>by rw[show k=lo+(n+1)-1 by lia]⟩) ?post)
   case fin =>
    rintro c st' ⟨q,rfl,xm,sa,dn,hq,he⟩
    exact ⟨_,q,rfl,by lia,xm,sa,dn,hq,he⟩
   case step =>
    rintro x c st2 h1 h2 ⟨q,rfl,xm,sa2,dn2,hq,he⟩
    dsimp only
    have sz:=sa2.size
    have u2:∀p∈(xI st2).toList,U p:=λp hp=>hu p (sa2.mem hp)
    refine xC (fB C (sa2.k.trans hκ) u2 (by lia) (by lia) ?_)
    dsimp only
    cases hb:O.blt (kk key (xI st2) (lo+x)) (kk key (xI st2) (lo+x-1)) with
    | true =>
     rw[if_pos rfl]
     have dn3:Down key (xI st2) lo (x+1):=λi j k1 k2 k3=>by
      by_cases hj:j=lo+x
      ·by_cases hi:i=j
       ·rw[hi];exact zf _
       ·rw[hj];exact xX (yP hb) (dn2 i (lo+x-1) k1 (by lia) (by lia))
      ·exact dn2 i j k1 k2 (by lia)
     by_cases q0:q>0
     ·rw[if_pos q0,Bj]
      refine xC (zI (xG ?_))
      have ke:=dU (key:=key) (xs:=xI st2) (i:=lo+x-(q+1)) (j:=lo+x) (by lia) he
      refine ⟨0,rfl,by lia,sa2.mirror (by lia) (by lia),λi j k1 k2 k3 =>?_,by lia,λk k1 k2=>by rw[show k=lo+(x+1)-1 by lia]⟩
      show O.kle (kk key (mirror (xI st2) (lo+x-(q+1)) (lo+x) ((lo+x-(lo+x-(q+1)))/2)) j) (kk key (mirror (xI st2) (lo+x-(q+1)) (lo+x) ((lo+x-(lo+x-(q+1)))/2)) i)
      rw[ke,ke]
      exact dn3 i j k1 k2 k3
     ·rw[if_neg q0]
      exact xG ⟨0,rfl,by lia,sa2,dn3,by lia,λk k1 k2=>by rw[show k=lo+(x+1)-1 by lia]⟩
    | false =>
     rw[if_neg (by simp)]
     refine xC (fB C (sa2.k.trans hκ) u2 (by lia) (by lia) ?_)
     dsimp only
     cases hb2:O.blt (kk key (xI st2) (lo+x-1)) (kk key (xI st2) (lo+x)) with
     | true =>
      rw[if_pos rfl]
      exact xG ⟨x,q,rfl,by lia,xm,sa2,dn2,hq,he⟩
     | false =>
      rw[if_neg (by simp)]
      have eq:=C5 (show O.kle (kk key (xI st2) (lo+x)) (kk key (xI st2) (lo+x-1)) from hb2) hb
      refine xG ⟨q+1,rfl,by lia,sa2,λi j k1 k2 k3 =>?_,by lia,λk k1 k2 =>?_⟩
      ·by_cases hj:j=lo+x
       ·by_cases hi:i=j
        ·rw[hi];exact zf _
        ·rw[hj,eq];exact dn2 i (lo+x-1) k1 (by lia) (by lia)
       ·exact dn2 i j k1 k2 (by lia)
      ·rw[show lo+(x+1)-1=lo+x by lia,eq]
       by_cases hk:k=lo+x
       ·rw[hk,eq]
       ·exact he k (by lia) (by lia)
   case post =>
    rintro c st2 ⟨x,q,rfl,x1,xm,sa2,dn2,hq,he⟩
    dsimp only
    have sz:=sa2.size
    by_cases q0:q>0
    case' pos =>
     rw[if_pos q0,Bj]
     refine xC (zI ?_)
     have ke:=dU (key:=key) (xs:=xI st2) (i:=lo+x-(q+1)) (j:=lo+x) (by lia) he
     have sa3:=sa2.mirror (i:=lo+x-(q+1)) (j:=lo+x) (by lia) (by lia)
     have dn3:Down key (xI (setArr st2 (mirror (xI st2) (lo+x-(q+1)) (lo+x) ((lo+x-(lo+x-(q+1)))/2)))) lo x:=λi j k1 k2 k3=>by
      show O.kle (kk key (mirror (xI st2) (lo+x-(q+1)) (lo+x) ((lo+x-(lo+x-(q+1)))/2)) j) (kk key (mirror (xI st2) (lo+x-(q+1)) (lo+x) ((lo+x-(lo+x-(q+1)))/2)) i)
      rw[ke,ke]
      exact dn2 i j k1 k2 k3
     generalize setArr st2 (mirror (xI st2) (lo+x-(q+1)) (lo+x) ((lo+x-(lo+x-(q+1)))/2))=st3 at sa3 dn3 ⊢
     clear ke
    case' neg =>
     rw[if_neg q0]
     obtain ⟨st3,e3⟩:∃st3,st3=st2:=⟨_,rfl⟩
     have sa3:SA lo st st3:=by rw[e3];exact sa2
     have dn3:Down key (xI st3) lo x:=by rw[e3];exact dn2
     rw[<- e3]
     clear e3
    all_goals
     rw[Bj]
     refine xC (zI ?_)
     have sz3:=sa3.size
     have sa4:=sa3.mirror (i:=lo) (j:=lo+x) (xg _) (by lia)
     have km:=j2 (key:=key) (xs:=xI st3) (i:=lo) (j:=lo+x) (by lia)
     have up4:Up key (xI (setArr st3 (mirror (xI st3) lo (lo+x) ((lo+x-lo)/2)))) lo x:=λi j k1 k2 k3=>by
      show O.kle (kk key (mirror (xI st3) lo (lo+x) ((lo+x-lo)/2)) i) (kk key (mirror (xI st3) lo (lo+x) ((lo+x-lo)/2)) j)
      rw[km,km,if_pos ⟨by lia,by lia⟩,if_pos ⟨by lia,by lia⟩]
      exact dn3 _ _ (by lia) (by lia) (by lia)
     generalize setArr st3 (mirror (xI st3) lo (lo+x) ((lo+x-lo)/2))=st4 at sa4 up4 ⊢
     clear km
     have u4:∀p∈(xI st4).toList,U p:=λp hp=>hu p (sa4.mem hp)
     have sz4:=sa4.size
     refine xC (zv (yH (I:=λz c st'=>st4=st'/\c=(none,z)/\z<=m/\Up key (xI st4) lo z)
      (Q:=λc st'=>st4=st'/\∃z,c=(none,z)/\1<=z/\z<=m/\Up key (xI st4) lo z) ?step ?fin ⟨rfl,rfl,xm,up4⟩) ?post)
     case fin =>
      rintro c st' ⟨rfl,rfl,zm,up⟩
      exact ⟨rfl,_,rfl,by lia,zm,up⟩
     case post =>
      rintro c st' ⟨rfl,z,rfl,z1,zm,up⟩
      exact xG (h z st4 z1 zm sa4 up)
     case step =>
      rintro z c st' h1 h2 ⟨rfl,rfl,zm,up⟩
      dsimp only
      refine xC (fB C (sa4.k.trans hκ) u4 (by lia) (by lia) ?_)
      dsimp only
      cases hb:O.blt (kk key (xI st4) (lo+z)) (kk key (xI st4) (lo+z-1)) with
      | true =>
       rw[if_pos rfl]
       exact xG ⟨rfl,z,rfl,by lia,zm,up⟩
      | false =>
       rw[if_neg (by simp)]
       refine xG ⟨rfl,rfl,by lia,λi j k1 k2 k3 =>?_⟩
       by_cases hj:j=lo+z
       ·by_cases hi:i=j
        ·rw[hi];exact zf _
        ·rw[hj];exact xX (up i (lo+z-1) k1 (by lia) (by lia)) hb
       ·exact up i j k1 k2 (by lia)
theorem j3 {xs:Array xD}{src d:Nat}(hs:src<xs.size)(hd:d<=src)(k:Nat) :
  kk key (bubble xs src d) k=if k=src-d then kk key xs src else if src-d<k/\k<=src then kk key xs (k-1) else kk key xs k:=by
 have e:=getElem?_bubble hs d hd k
 by_cases h1:k=src-d
 ·rw[if_pos h1] at e ⊢;exact gq e
 ·rw[if_neg h1] at e ⊢
  by_cases h2:src-d<k/\k<=src
  ·rw[if_pos h2] at e ⊢;exact gq e
  ·rw[if_neg h2] at e ⊢;exact gq e
theorem SA.bubble {lo:Nat}{st st':xP}(h:SA lo st st'){src d:Nat}(hs:src<(xI st').size)(hd:lo+d<=src):SA lo st (setArr st' (bubble (xI st') src d)) :=
 ⟨(bubble_perm _ _ _).trans h.perm,λk hk=>by
  show (PyProof.Rows.bubble (xI st') src d)[k]? = _
  rw[getElem?_bubble hs d (by lia),if_neg (by lia),if_neg (by lia)]
  exact h.pre k hk,h.k,h.p,h.f⟩
theorem rG (C:Cmp prog w A s O key U κ){st:xP}{lo n ok:Nat}{Q:Bool->xP->Prop}(hκ:kindOf st=κ)(hu:∀p∈(xI st).toList,U p)(hn:lo+n<=(xI st).size)(hok:ok<=n)(up:Up key (xI st) lo ok)
  (h:∀st',SA lo st st'->Up key (xI st') lo n->Q true st'):wpS (xT prog w) A E s (rk lo n ok) Q st:=by
 rw[rF]
 dsimp only
 refine xC (zv (yH (I:=λx c st'=>c=(none,())/\SA lo st st'/\Up key (xI st') lo (min x n)) (Q:=λc st'=>c=(none,())/\SA lo st st'/\Up key (xI st') lo n) ?step ?fin ⟨rfl,SA.refl _ _,λi j k1 k2 k3 =>?_⟩) ?post)
 case post =>
  rintro c st' ⟨rfl,sa,up⟩
  exact xG (h st' sa up)
 case fin =>
  rintro c st' ⟨rfl,sa,up⟩
  refine ⟨rfl,sa,?_⟩
  rw[show min (max (max ok 1) n) n=n by lia] at up
  exact up
 case step =>
  rintro k c st1 h1 h2 ⟨rfl,sa1,up1⟩
  rw[show min k n=k by lia] at up1
  have sz:=sa1.size
  have u1:∀p∈(xI st1).toList,U p:=λp hp=>hu p (sa1.mem hp)
  refine xC (zv (yH (I:=λx c st'=>st1=st'/\∃l r,c=(none,l,r)/\l<=r/\r<=k/\r-l<=k-x/\(∀i,i<l->O.kle (kk key (xI st1) (lo+i)) (kk key (xI st1) (lo+k)))/\(∀i,r<=i->i<k->O.klt (kk key (xI st1) (lo+k)) (kk key (xI st1) (lo+i))))
   (Q:=λc st'=>st1=st'/\∃l r,c=(none,l,r)/\l<=k/\(∀i,i<l->O.kle (kk key (xI st1) (lo+i)) (kk key (xI st1) (lo+k)))/\(∀i,l<=i->i<k->O.klt (kk key (xI st1) (lo+k)) (kk key (xI st1) (lo+i)))) ?istep ?ifin ⟨rfl,0,k,rfl,by lia,by lia,by lia,λi hi=>by lia,λi a1 a2=>by lia⟩) ?ipost)
  case ifin =>
   rintro c st' ⟨rfl,l,r,rfl,b1,b2,b3,b4,b5⟩
   have e:l=r:=by lia
   subst e
   exact ⟨rfl,l,l,rfl,b2,b4,b5⟩
  case istep =>
   rintro x c st' _ hx ⟨rfl,l,r,rfl,b1,b2,b3,b4,b5⟩
   dsimp only
   by_cases hge:l≥r
   ·rw[if_pos hge]
    have e:l=r:=by lia
    subst e
    exact xG ⟨rfl,l,l,rfl,b2,b4,b5⟩
   ·rw[if_neg hge]
    refine xC (fB C (sa1.k.trans hκ) u1 (by lia) (by lia) ?_)
    dsimp only
    cases hb:O.blt (kk key (xI st1) (lo+k)) (kk key (xI st1) (lo+(l+r)/2)) with
    | true =>
     rw[if_pos rfl]
     exact xG ⟨rfl,l,(l+r)/2,rfl,by lia,by lia,by lia,b4,λi a1 a2=>KeyOrd.klt_of_klt_of_kle hb (up1 _ _ (by lia) (by lia) (by lia))⟩
    | false =>
     rw[if_neg (by simp)]
     exact xG ⟨rfl,(l+r)/2+1,r,rfl,by lia,by lia,by lia,λi a1=>xX (up1 (lo+i) (lo+(l+r)/2) (by lia) (by lia) (by lia)) hb,b5⟩
  case ipost =>
   rintro c st' ⟨rfl,l,r,rfl,b2,b4,b5⟩
   dsimp only
   rw[moveDown'_eq]
   have e:lo+k-(lo+l)=k-l:=by lia
   refine xC (zI (xG ⟨rfl,?_,?_⟩))
   ·rw[e]
    exact sa1.bubble (by lia) (by lia)
   ·rw[show min (k+1) n=k+1 by lia]
    intro i j k1 k2 k3
    show O.kle (kk key (bubble (xI st1) (lo+k) (lo+k-(lo+l))) i) (kk key (bubble (xI st1) (lo+k) (lo+k-(lo+l))) j)
    have lt:lo+k<(xI st1).size:=by lia
    rw[e,j3 lt (by lia),j3 lt (by lia),show lo+k-(k-l)=lo+l by lia]
    have b4':∀z,lo<=z->z<lo+l->O.kle (kk key (xI st1) z) (kk key (xI st1) (lo+k)):=λz z1 z2=>by
     have:=b4 (z-lo) (by lia)
     rw[show lo+(z-lo)=z by lia] at this
     exact this
    have b5':∀z,lo+l<=z->z<lo+k->O.kle (kk key (xI st1) (lo+k)) (kk key (xI st1) z):=λz z1 z2=>by
     have:=b5 (z-lo) (by lia) (by lia)
     rw[show lo+(z-lo)=z by lia] at this
     exact yP this
    repeat' split
    all_goals first
     | (exfalso;lia)
     | exact zf _
     | exact b4' _ (by lia) (by lia)
     | exact b5' _ (by lia) (by lia)
     | exact up1 _ _ (by lia) (by lia) (by lia)
 ·by_cases h1:ok=0
  ·rw[show i=j by lia];exact zf _
  ·exact up i j k1 k2 (by lia)
end
open PySem PyProof.Rows
def pwr:Nat->Nat->Nat->Nat->Nat:=sortPriv% PySem.Builtin.power
def mrn:Nat->Nat->Nat->Nat:=sortPriv% PySem.Builtin.minRun
theorem rH:uI=(do
    let sz:=(xI (← get)).size
    let mr:=mrn sz sz 0
    let mut lo:=0
    for _ in [0:sz] do
      if lo≥sz then break
      let some fd ← vo lo (sz-lo)
        | return
      let mut n:=fd
      if n<mr then
        rule "list.sort.binary-insertion"
        let fo:=min (sz-lo) mr
        if !(← rk lo fo n) then return
        n:=fo
      if let some (s1,n1,_):=(xO (← get)).back? then
        let pw:=pwr sz (2*s1+n1) (2*s1+n1+n1+n) sz
        for _ in [0:sz] do
          let p:=xO (← get)
          let some (_,_,old):=(if p.size>1 then p[p.size-2]? else none)
            | break
          if old<=pw then break
          if !(← mAt (p.size-2)) then return
        modify λs=>SortSt.mk' (kindOf s) (xI s) ((xO s).modify ((xO s).size-1) λ(st,len,_)=>(st,len,pw)) (gallopOf s) (failedOf s)
      modify λs=>SortSt.mk' (kindOf s) (xI s) ((xO s).push (lo,n,0)) (gallopOf s) (failedOf s)
      lo:=lo+n
    for _ in [0:sz] do
      let p:=xO (← get)
      if p.size<=1 then break
      let i:=p.size-2
      let bf:=if i>0 then p[i-1]?.map (·.2.1) else none
      let i:=if bf.any (· < (p[i+1]?.elim 0 (·.2.1))) then i-1 else i
      if !(← mAt i) then return):=rfl
def Mt:Nat->List (List xD)->List (Nat×Nat×Nat)->Prop
 | _,[],[]=>True
 | off,r :: rs,p :: ps=>p.1=off/\p.2.1=r.length/\Mt (off+r.length) rs ps
 | _,_,_=>False
theorem Mt.length:∀{off:Nat} {rs:List (List xD)} {ps:List (Nat×Nat×Nat)},Mt off rs ps->ps.length=rs.length
 | _,[],[],_=>rfl
 | _,_ :: _,_ :: _,h=>by rw[xV,xV,Mt.length h.2.2]
theorem Mt.append:∀{off:Nat} {rs ts:List (List xD)} {ps us:List (Nat×Nat×Nat)},Mt off rs ps->Mt (off+rs.flatten.length) ts us->Mt off (rs++ts) (ps++us)
 | _,[],_,[],_,_,h=>by simpa using h
 | off,r :: rs,ts,p :: ps,us,h,h'=>by
  refine ⟨h.1,h.2.1,Mt.append h.2.2 ?_⟩
  rw[y7,w9, <- Ew] at h'
  exact h'
theorem Mt.split:∀{off:Nat} {rs:List (List xD)} {ps:List (Nat×Nat×Nat)} (i:Nat),Mt off rs ps->i+1<ps.length →
  ∃R1 X Y R2 L1 w1 w2 L2,rs=R1++X :: Y :: R2/\ps=L1++(off+R1.flatten.length,X.length,w1) :: (off+R1.flatten.length+X.length,Y.length,w2) :: L2/\L1.length=i/\Mt off R1 L1/\Mt (off+R1.flatten.length+X.length+Y.length) R2 L2
 | off,r :: r2 :: rs,p :: p2 :: ps,0,h,_=>by
  obtain ⟨a,b,w1⟩:=p
  obtain ⟨c,d,w2⟩:=p2
  obtain ⟨h1,h2,h3,h4,h5⟩:=h
  dsimp only at h1 h2 h3 h4
  subst h1 h2 h3 h4
  exact ⟨[],r,r2,rs,[],w1,w2,ps,rfl,rfl,rfl,trivial,h5⟩
 | off,r :: rs,p :: ps,i+1,h,hl=>by
  rw[xV] at hl
  obtain ⟨R1,X,Y,R2,L1,w1,w2,L2,e1,e2,e3,m1,m2⟩:=Mt.split i h.2.2 (by lia)
  have ea:off+(r :: R1).flatten.length=off+r.length+R1.flatten.length:=by rw[y7,w9];lia
  refine ⟨r :: R1,X,Y,R2,p :: L1,w1,w2,L2,by rw[e1];rfl,?_,by rw[xV,e3],⟨h.1,h.2.1,m1⟩,?_⟩
  ·rw[ea,e2];rfl
  ·rw[ea];exact m2
 | off,[],[],i,_,hl=>by simp at hl
 | off,[_],[_],0,_,hl=>by simp at hl
theorem Mt.modify (f:Nat×Nat×Nat->Nat×Nat×Nat)(hf:∀p,(f p).1=p.1/\(f p).2.1=p.2.1):∀{off:Nat} {rs:List (List xD)} {ps:List (Nat×Nat×Nat)} (i:Nat),Mt off rs ps->Mt off rs (ps.modify i f)
 | _,[],[],i,_=>by cases i <;> exact trivial
 | off,r :: rs,p :: ps,0,h=>⟨(hf p).1.trans h.1,(hf p).2.trans h.2.1,h.2.2⟩
 | off,r :: rs,p :: ps,i+1,h=>⟨h.1,h.2.1,Mt.modify f hf i h.2.2⟩
theorem p8 {α:Type}(l:List α)(a b c:α)(r:List α):((l++a :: b :: r).set l.length c).eraseIdx (l.length+1)=l++c :: r:=by
 induction l with
 | nil=>rfl
 | cons x l ih=>simp only[List.cons_append,xV,List.set_cons_succ,List.eraseIdx_cons_succ,ih]
section
variable  {O:BN}(key:xD->O.α)(U:xD->Prop)(κ:SortKind)
structure Rn (a0:List xD)(lo:Nat)(st:xP):Prop where
 ex:∃runs rest,(xI st).toList=runs.flatten++rest/\runs.flatten.length=lo/\(∀r∈runs,r.Pairwise (Le key)/\0<r.length)/\Mt 0 runs (xO st).toList
 perm:(xI st).toList.Perm a0
 k:kindOf st=κ
 f:failedOf st=none
end
section
variable  {prog:xA}{w:xQ}{A:yh}{E:xb->xh->Prop}{s:xh}{O:BN}{key:xD->O.α}{U:xD->Prop}{κ:SortKind}
theorem lT (C:Cmp prog w A s O key U κ){a0:List xD}{lo i:Nat}{st:xP}{Q:Bool->xP->Prop}(hu:∀p∈a0,U p)(R:Rn key κ a0 lo st)(hi:i+1<(xO st).size)
  (h:∀st',Rn key κ a0 lo st'->(xO st').size+1=(xO st).size->(xI st').toList.drop lo=(xI st).toList.drop lo->Q true st'):wpS (xT prog w) A E s (mAt i) Q st:=by
 obtain ⟨runs,rest,ea,el,er,em⟩:=R.ex
 obtain ⟨R1,X,Y,R2,L1,w1,w2,L2,e1,e2,e3,m1,m2⟩:=Mt.split i em (by rw[xk];exact hi)
 subst e1
 rw[z5] at e2 m2
 have hx:=er X (by simp)
 have hy:=er Y (by simp)
 have ga:(xO st)[i]? = some (R1.flatten.length,X.length,w1):=by
  rw[<- xy,e2, <- e3,show L1.length=L1.length+0 by lia,nt];rfl
 have gb:(xO st)[i+1]? = some (R1.flatten.length+X.length,Y.length,w2):=by
  rw[<- xy,e2, <- e3,nt];rfl
 refine vA C (P:=R1.flatten) (X:=X) (Y:=Y) (S:=R2.flatten++rest) R.k R.f (by rw[ea];simp) (λp hp=>hu p (R.perm.mem_iff.mp hp)) ga gb hx.2 hy.2 hx.1 hy.1 λst' M pm sm ar pd kd fl =>?_
 have lm:M.length=X.length+Y.length:=by rw[pm.length_eq,w9]
 have ep:(xO st').toList=L1++(R1.flatten.length,X.length+Y.length,w1) :: L2:=by
  rw[pd,Array.toList_eraseIdxIfInBounds,BE,e2, <- e3]
  exact p8 _ _ _ _ _
 refine h st' ⟨⟨R1++M :: R2,rest,?_,?_,λr hr =>?_,?_⟩,?_,kd,fl⟩ ?_ ?_
 ·rw[ar];simp
 ·rw[<- el];simp[lm];lia
 ·rcases xx.mp hr with q | q
  ·exact er r (by simp[q])
  ·rcases xK.mp q with q | q
   ·rw[q];exact ⟨sm,by have:=hx.2;lia⟩
   ·exact er r (by simp[q])
 ·rw[ep]
  refine Mt.append m1 ⟨by rw[z5],lm.symm,?_⟩
  rw[z5,lm, <- Ew]
  exact m2
 ·rw[ar]
  refine List.Perm.trans ?_ R.perm
  rw[ea,show (R1++X :: Y :: R2).flatten++rest=R1.flatten++((X++Y)++(R2.flatten++rest)) by simp]
  exact zx _ (zK _ pm)
 ·rw[<- xk, <- xk,ep,e2]
  simp only[w9,xV]
  lia
 ·have l1:(R1++M :: R2).flatten.length=lo:=by rw[<- el];simp[lm];lia
  have q1:(xI st').toList=(R1++M :: R2).flatten++rest:=by rw[ar];simp
  rw[q1,ea, <- l1,BV,l1, <- el,BV]
theorem Rn.sa {a0:List xD}{lo:Nat}{st st':xP}(R:Rn key κ a0 lo st)(sa:SA lo st st'):Rn key κ a0 lo st':=by
 obtain ⟨runs,rest,ea,el,er,em⟩:=R.ex
 have et:(xI st').toList.take lo=runs.flatten:=by
  have e1:(xI st').toList.take lo=(xI st).toList.take lo:=by
   refine DG λi =>?_
   rw[zg,zg]
   split
   ·rw[xy,xy];exact sa.pre i (by assumption)
   ·rfl
  rw[e1,ea, <- el,List.take_left]
 refine ⟨⟨runs,(xI st').toList.drop lo,by rw[<- et,zy],el,er,by rw[sa.p];exact em⟩,(BF.mp sa.perm).trans R.perm,sa.k.trans R.k,sa.f.trans R.f⟩
theorem p9 {xs:Array xD}{lo n:Nat}(h:Up key xs lo n):((xs.toList.drop lo).take n).Pairwise (Le key):=by
 refine Az.mpr λi j hi hj hij =>?_
 have get:∀k (hk:k<((xs.toList.drop lo).take n).length),key ((xs.toList.drop lo).take n)[k]=kk key xs (lo+k)/\k<n:=λk hk=>by
  have hk':=hk
  rw[yy] at hk'
  refine ⟨?_,by lia⟩
  have e:((xs.toList.drop lo).take n)[k]? = xs[lo+k]? := by
   rw[zg,if_pos (by lia),Ai,xy]
  rw[xp hk] at e
  unfold kk
  rw[<- e];rfl
 obtain ⟨e1,l1⟩:=get i hi
 obtain ⟨e2,l2⟩:=get j hj
 show O.kle (key _) (key _)
 rw[e1,e2]
 exact h _ _ (by lia) (by lia) (by lia)
theorem Rn.push {a0:List xD}{lo n:Nat}{st:xP}(R:Rn key κ a0 lo st)(hn:0<n)(hz:lo+n<=(xI st).size)(hs:(((xI st).toList.drop lo).take n).Pairwise (Le key)) :
  Rn key κ a0 (lo+n) (SortSt.mk' (kindOf st) (xI st) ((xO st).push (lo,n,0)) (gallopOf st) (failedOf st)):=by
 obtain ⟨runs,rest,ea,el,er,em⟩:=R.ex
 have ed:(xI st).toList.drop lo=rest:=by rw[ea, <- el,BV]
 rw[ed] at hs
 have lr:n<=rest.length:=by
  have:=congrArg List.length ea
  rw[xk,w9,el] at this
  lia
 have lt:(rest.take n).length=n:=by rw[yy];lia
 refine ⟨⟨runs++[rest.take n],rest.drop n,?_,?_,λr hr =>?_,?_⟩,R.perm,R.k,R.f⟩
 ·show (xI st).toList=_
  rw[ea];simp
 ·simp[lt,el]
 ·rcases xx.mp hr with q | q
  ·exact er r q
  ·have e:r=rest.take n:=by simpa using q
   rw[e];exact ⟨hs,by lia⟩
 ·show Mt 0 _ ((xO st).push (lo,n,0)).toList
  rw[zU]
  exact Mt.append em ⟨by show lo=_;lia,lt.symm,trivial⟩
theorem Rn.mod {a0:List xD}{lo:Nat}{st:xP}(R:Rn key κ a0 lo st)(i:Nat)(f:Nat×Nat×Nat->Nat×Nat×Nat)(hf:∀p,(f p).1=p.1/\(f p).2.1=p.2.1):Rn key κ a0 lo (SortSt.mk' (kindOf st) (xI st) ((xO st).modify i f) (gallopOf st) (failedOf st)):=by
 obtain ⟨runs,rest,ea,el,er,em⟩:=R.ex
 refine ⟨⟨runs,rest,ea,el,er,?_⟩,R.perm,R.k,R.f⟩
 show Mt 0 runs ((xO st).modify i f).toList
 rw[Array.toList_modify]
 exact Mt.modify f hf i em
theorem vB {c:Prop}[Decidable c]{n:Nat}(h:1<n):(if c then n-2-1 else n-2)+1<n:=by split <;> omega
theorem j4:∀{runs:List (List xD)},(∀r∈runs,0<r.length)->runs.length<=runs.flatten.length
 | [],_=>xg _
 | r :: rs,h=>by
  have h1:=h r xN
  have h2:=j4 λq hq=>h q (xR _ hq)
  rw[y7,w9,xV]
  lia
theorem rJ (C:Cmp prog w A s O key U κ){a0:List xD}{st:xP}{Q:Unit->xP->Prop}(hu:∀p∈a0,U p)(ha:(xI st).toList=a0)(hp:xO st = #[])(hk:kindOf st=κ)(hf:failedOf st=none)(h1:1<=a0.length)
  (h:∀st',(xI st').toList.Perm a0->(xI st').toList.Pairwise (Le key)->failedOf st'=none->Q () st'):wpS (xT prog w) A E s uI Q st:=by
 rw[rH]
 refine xC (Cj ?_)
 dsimp only
 have sz0:(xI st).size=a0.length:=by rw[<- xk,ha]
 have szR:∀{lo:Nat} {st':xP},Rn key κ a0 lo st'->(xI st').size=(xI st).size:=λR=>by rw[<- xk,R.perm.length_eq,sz0]
 have uR:∀{lo:Nat} {st':xP},Rn key κ a0 lo st'->∀p∈(xI st').toList,U p:=λR p hp=>hu p (R.perm.mem_iff.mp hp)
 have R0:Rn key κ a0 0 st:=⟨⟨[],a0,by rw[ha];rfl,rfl,λr hr=>(by cases hr),by rw[hp];exact trivial⟩,by rw[ha],hk,hf⟩
 refine xC (zv (yH (I:=λx c st'=>∃lo,c=(none,lo)/\x<=lo/\lo<=(xI st).size/\Rn key κ a0 lo st') (Q:=λc st'=>c=(none,(xI st).size)/\Rn key κ a0 (xI st).size st') ?step ?fin ⟨0,rfl,xg _,yk _,R0⟩) ?post)
 case fin =>
  rintro c st' ⟨lo,rfl,l1,l2,R⟩
  obtain rfl:lo=(xI st).size:=by lia
  exact ⟨rfl,R⟩
 case post =>
  rintro c st1 ⟨rfl,R⟩
  dsimp only
  have p0:(xO st1).size<=(xI st).size:=by
   obtain ⟨runs,rest,ea,el,er,em⟩:=R.ex
   have q:=em.length
   rw[xk] at q
   have:=j4 λr hr=>(er r hr).2
   lia
  refine xC (zv (yH (I:=λx c st'=>c=(none,())/\Rn key κ a0 (xI st).size st'/\((xO st').size<=1\/(xO st').size+x<=(xI st).size)) (Q:=λc st'=>c=(none,())/\Rn key κ a0 (xI st).size st'/\(xO st').size<=1) ?stepB ?finB ⟨rfl,R,.inr (by lia)⟩) ?postB)
  case finB =>
   rintro c st' ⟨rfl,R,q⟩
   exact ⟨rfl,R,by lia⟩
  case stepB =>
   rintro x c st' _ hx ⟨rfl,R,q⟩
   refine xC (Cj ?_)
   by_cases c1:(xO st').size<=1
   ·rw[if_pos c1]
    exact xG ⟨rfl,R,c1⟩
   rw[if_neg c1]
   refine xC (lT C hu R (vB (by lia)) λst2 R2 s2 _ =>?_)
   simp only[Cc,ze,if_false]
   exact xG ⟨rfl,R2,by lia⟩
  case postB =>
   rintro c st' ⟨rfl,R,q⟩
   obtain ⟨runs,rest,ea,el,er,em⟩:=R.ex
   have lm:=em.length
   rw[xk] at lm
   have lr:=congrArg List.length ea
   rw[xk,szR R,w9,el] at lr
   have er0:rest=[]:=AW.mp (by lia)
   subst er0
   rw[yu] at ea
   match runs,er,lm,el,ea with
   | [],_,_,el,_=>simp at el;lia
   | [r],er,_,_,ea =>
    have e:(xI st').toList=r:=by rw[ea];simp
    exact xG (h st' R.perm (by rw[e];exact (er r (by simp)).1) R.f)
   | _ :: _ :: _,_,lm,_,_=>simp at lm;lia
 case step =>
  rintro x c st1 _ hx ⟨lo,rfl,l1,l2,R⟩
  dsimp only
  by_cases cl:lo≥(xI st).size
  ·rw[if_pos cl]
   obtain rfl:lo=(xI st).size:=by lia
   exact xG ⟨rfl,R⟩
  rw[if_neg cl]
  have s1:=szR R
  refine xC (tP C R.k (uR R) (by lia) (by lia) λn st2 n1 n2 sa2 up2 =>?_)
  dsimp only
  have R2:=R.sa sa2
  have s2:=szR R2
  by_cases cm:n<mrn (xI st).size (xI st).size 0
  case' pos =>
   rw[if_pos cm]
   refine xC (CV (Ay ⟨rfl,?_⟩))
   obtain ⟨fo,e⟩:∃fo,fo=min ((xI st).size-lo) (mrn (xI st).size (xI st).size 0):=⟨_,rfl⟩
   rw[<- e]
   refine xC (rG C R2.k (uR R2) (by lia) (by lia) up2 λst3 sa3 up3 =>?_)
   simp only[Cc,ze,if_false]
   have R3:=R2.sa sa3
   have f0:0<fo:=by lia
   have f1:lo+fo<=(xI st).size:=by lia
  case' neg =>
   rw[if_neg cm]
   obtain ⟨fo,e⟩:∃fo,fo=n:=⟨_,rfl⟩
   subst e
   obtain ⟨st3,e3⟩:∃st3,st3=st2:=⟨_,rfl⟩
   subst e3
   have R3:=R2
   have up3:=up2
   have f0:0<fo:=n1
   have f1:lo+fo<=(xI st).size:=by lia
  all_goals
   have srt:=p9 up3
   have s3:=szR R3
   refine xC (Cj ?_)
   cases hbk:(xO st3).back? with
   | none =>
    dsimp only
    exact xC (zI (xG ⟨lo+fo,rfl,by lia,f1,R3.push f0 (by lia) srt⟩))
   | some t =>
    obtain ⟨t1,t2,t3⟩:=t
    dsimp only
    refine xC (zv (yH (I:=λ_ c st'=>c=(none,())/\Rn key κ a0 lo st'/\(xI st').toList.drop lo=(xI st3).toList.drop lo) (Q:=λc st'=>c=(none,())/\Rn key κ a0 lo st'/\(xI st').toList.drop lo=(xI st3).toList.drop lo) ?stepC ?finC ⟨rfl,R3,rfl⟩) ?postC)
    case finC=>exact λc st' q=>q
    case stepC =>
     rintro z c st4 _ _ ⟨rfl,R4,d4⟩
     refine xC (Cj ?_)
     by_cases p1:(xO st4).size>1
     ·rw[if_pos p1]
      have lt:(xO st4).size-2<(xO st4).size:=by lia
      have e:(xO st4)[(xO st4).size-2]? = some (xO st4)[(xO st4).size-2]:=by simp[lt]
      rw[e]
      dsimp only
      split
      ·exact xG ⟨rfl,R4,d4⟩
      ·refine xC (lT C hu R4 (by lia) λst5 R5 _ d5 =>?_)
       simp only[Cc,ze,if_false]
       exact xG ⟨rfl,R5,d5.trans d4⟩
     ·rw[if_neg p1]
      exact xG ⟨rfl,R4,d4⟩
    case postC =>
     rintro c st4 ⟨rfl,R4,d4⟩
     dsimp only
     have s4:=szR R4
     refine xC (zI (xC (zI (xG ⟨lo+fo,rfl,by lia,f1,?_⟩))))
     refine Rn.push ?_ f0 ?_ ?_
     ·refine Rn.mod R4 _ _ ?_
      exact λp=>⟨rfl,rfl⟩
     ·show lo+fo<=(xI st4).size
      lia
     ·show (((xI st4).toList.drop lo).take fo).Pairwise (Le key)
      rw[d4]
      exact srt
end
open PySem PyProof.Rows
structure oK (prog:xA)(w:xQ)(s:xh)(vs:List xb)(O:BN)(key:xb->O.α):Prop where
 ok:2<=vs.length->∀(A:yh) (h6:Heap),(∀b o,s.heap.get? b=some o->h6.get? b=some o)->∃κ,(∀(Q:SortKind->xh->Prop) (E:xb->xh->Prop),Q κ { s with heap:=h6 }->xM (xT prog w) A (keyKind' vs.toArray) Q E { s with heap:=h6 }) ∧
  Cmp prog w A { s with heap:=h6 } O (λp=>key p.1) (λp=>p.1=p.2/\p.1∈vs) κ
section
variable  {prog:xA}{w:xQ}{A:yh}{E:xb->xh->Prop}{s:xh}{O:BN}{key:xb->O.α}
theorem zs:∀vs:List xb,(vs.zip vs).map (·.2)=vs
 | []=>rfl
 | v :: vs=>by rw[Dq,xJ,zs vs]
theorem lU {l:List xD}{vs:List xb}(h:l.Perm (vs.zip vs)):(l.map (·.2)).Perm vs/\∀p∈l,p.1=p.2/\p.1∈vs:=by
 have e:=zs vs
 refine ⟨by have:=h.map (·.2);rw[e] at this;exact this,λp hp =>?_⟩
 have m:=h.mem_iff.mp hp
 obtain ⟨i,hi⟩:=yn.mp m
 rw[BO] at hi
 have e1:=hi.1.symm.trans hi.2
 exact ⟨x9 e1,xE hi.1⟩
theorem fL {a:Addr}{vs:List xb}{n:Nat}{P:Fin->xh->Prop}(ho:s.heap.get? a=some (seqObj "list" vs.toArray n))(hz:vs.length<=xf)
    (hc:2<=vs.length->∀h6,(∀b o,b≠a->s.heap.get? b=some o->h6.get? b=some o)->∃κ,(∀(Q:SortKind->xh->Prop) (E:xb->xh->Prop),Q κ { s with heap:=h6 }->xM (xT prog w) A (keyKind' vs.toArray) Q E { s with heap:=h6 }) ∧
      Cmp prog w A { s with heap:=h6 } O (λp=>key p.1) (λp=>p.1=p.2/\p.1∈vs) κ)
    (h:∀out:List xb,out.Perm vs->out.Pairwise (λx y=>O.kle (key x) (key y))->P (.done (.ret .none)) { s with heap:=sortedHeap s.heap a vs out.toArray }):xM (xT prog w) A (Builtin.«list.sort» ⟨[.ref a],[]⟩) P E s:=by
  rw[list_sort_plain]
  have ha:a<s.heap.objs.size:=xt ho
  refine wZ (DQ ho rfl ?_)
  refine wZ (Ck ho rfl ?_ (by rw[xc];exact hz) (yk _))
  obtain ⟨e1,ho1⟩:∃e1,(s.heap.update a (yW λ_ => #[])).get? a=some (seqObj "list" #[] e1):=⟨_,get?_update_seq ho (λ_ => #[])⟩
  refine wZ (seqEpoch_at ho1 rfl (wZ (wpAny_newTuple ?_ (by exact hz))))
  refine wZ (Cm ?_ (yk _))
  refine yL ?_
  generalize hH:((s.heap.update a (yW λ_ => #[])).push (seqObj "tuple" vs.toArray 0)).push (seqObj "list" #[] 0)=h6
  have kp:∀b o,b≠a->s.heap.get? b=some o->h6.get? b=some o:=λb o nb e=>by
    rw[<- hH]
    refine wX _ (wX _ ?_)
    rw[C6 _ _ _ _ nb]
    exact e
  have ho6:h6.get? a=some (seqObj "list" #[] e1):=by
    rw[<- hH]
    exact wX _ (wX _ ho1)
  have eH:∀out:List xb,sortedHeap s.heap a vs out.toArray=h6.update a (yW λ_=>out.toArray):=λout=>by rw[<- hH];rfl
  have go:∀st':xP,(xI st').toList.Perm (vs.zip vs)->(xI st').toList.Pairwise (λp q=>O.kle (key p.1) (key q.1))->failedOf st'=none →
      xM (xT prog w) A (do
        let sorted:=(xI st').map (·.2)
        let touched:=(← seqEpoch a) != e1
        Builtin.List.listUpdate (.ref a) λ_=>sorted
        if let some e:=failedOf st' then rule "list.sort.comparison-raised";throw e
        if touched then rule "list.sort.modified";raiseError "ValueError" "list modified during sort"
        ret .none) P E { s with heap:=h6 }:=by
    intro st' pm ps hf
    obtain ⟨z1,z2⟩:=lU pm
    have em:(xI st').map (·.2)=((xI st').toList.map (·.2)).toArray:=by
      apply DW.mp
      rw[Bh]
    dsimp only
    refine wZ (seqEpoch_at ho6 rfl ?_)
    refine wZ (Ck ho6 rfl ?_ (yk _) (by rw[yE, <- xk,pm.length_eq,D2,CD];lia))
    rw[hf]
    simp only[bne_self_eq_false,ze,if_false]
    refine xn ?_
    rw[em, <- eH]
    refine h _ z1 (zq.mpr (ps.imp_of_mem λ{p q} hp hq le =>?_))
    rw[<- (z2 p hp).1, <- (z2 q hq).1]
    exact le
  by_cases h2:vs.toArray.size<2
  · rw[if_pos h2,if_pos h2]
    refine wZ (xn ?_)
    dsimp only
    rw[StateT.run_pure]
    refine wZ (xn ?_)
    refine go (SortSt.mk' general' (vs.toArray.zip vs.toArray) #[] 7 none) (by show (vs.toArray.zip vs.toArray).toList.Perm _;simp) ?_ rfl
    rw[xc] at h2
    have et:(vs.toArray.zip vs.toArray).toList=vs.zip vs:=by simp
    show (vs.toArray.zip vs.toArray).toList.Pairwise (λ(p q:xD)=>O.kle (key p.1) (key q.1))
    rw[et]
    have short:∀us:List xb,us.length<2->(us.zip us).Pairwise (λ(p q:xD)=>O.kle (key p.1) (key q.1)):=λus hu=>by
      match us,hu with
      | [],_=>exact List.Pairwise.nil
      | [v],_=>exact zF _ _
      | _ :: _ :: _,hu=>simp only[xV] at hu;lia
    exact short vs h2
  · rw[if_neg h2,if_neg h2]
    rw[xc] at h2
    obtain ⟨κ,k1,C⟩:=hc (by lia) h6 kp
    refine wZ (k1 _ _ ?_)
    have et:(vs.toArray.zip vs.toArray).toList=vs.zip vs:=by simp
    refine wZ (zX (rJ C (E:=E) (a0:=vs.zip vs) (st:=SortSt.mk' κ (vs.toArray.zip vs.toArray) #[] 7 none)
      (Q:=λ_ st'=>(xI st').toList.Perm (vs.zip vs)/\(xI st').toList.Pairwise (Le λ(p:xD)=>key p.1)/\failedOf st'=none)
      (lU (BR _)).2 et rfl rfl rfl (by rw[D2,CD];lia) λst' a1 a2 a3=>⟨a1,a2,a3⟩) ?_ λ_ _ e=>e)
    rintro ⟨⟨⟩,st'⟩ s' ⟨rfl,hp,hs,hf⟩
    exact go st' hp hs hf
def lV (prog:xA)(w:xQ)(s:xh)(v:xb)(vs:List xb):Prop :=
 ∀(A:yh) (E:xb->xh->Prop) (R:List xb->xh->Prop),(∀h1,(∀b o,s.heap.get? b=some o->h1.get? b=some o)->s.heap.objs.size<=h1.objs.size->R vs { s with heap:=h1 })->xM (xT prog w) A (collect v) R E s
theorem nv {v:xb}{vs:List xb}{Q:xb->xh->Prop}(hv:lV prog w s v vs)(hz:vs.length<=xf)(C:oK prog w s vs O key)
  (h:∀(h':Heap) (p:Addr) (out:List xb) (n:Nat),(∀b o,s.heap.get? b=some o->h'.get? b=some o)->s.heap.objs.size<=p->h'.get? p=some (seqObj "list" out.toArray n)->out.Perm vs->out.Pairwise (λx y=>O.kle (key x) (key y))->Q (.ref p) { s with heap:=h' }) :
  xM (xT prog w) A (call (.builtin "sorted") [v]) Q E s:=by
 refine BW kind_sorted plain_sorted entry_sorted (args_sorted1 _) ?_
 unfold Builtin.«sorted»
 refine wZ (m:=checkCount "sorted" 1 1 _) (xn ?_)
 refine wZ (hv _ _ _ λh1 k1 z1=>wZ (Cm ?_ hz))
 have hoL:(h1.push (seqObj "list" vs.toArray 0)).get? h1.objs.size=some (seqObj "list" vs.toArray 0):=xr _ rfl
 have kL:∀b o,s.heap.get? b=some o->(h1.push (seqObj "list" vs.toArray 0)).get? b=some o:=λb o e=>wX _ (k1 b o e)
 refine wZ (yL (yr slot_list_sort ⟨_,hoL,rfl⟩ entry_list_sort (fL (key:=key) (O:=O) hoL hz (λh2 h6 k6 =>?_) λout pm ps=>⟨_,rfl,?_⟩) (args_list_sort _)))
 ·exact C.ok h2 _ h6 λb o e=>k6 b o (xF (xH (xt e) z1)) (kL b o e)
 ·obtain ⟨n,en⟩:=sortedHeap_at (out:=out.toArray) hoL
  refine xn ⟨_,rfl,h _ _ out n (λb o e =>?_) z1 en pm ps⟩
  have lt:=xH (xt e) z1
  rw[sortedHeap_old (xF lt) (by rw[Ep];exact yB lt)]
  exact kL b o e
theorem kM {l:Addr}{o:Obj}{vs:List xb}{n:Nat}(ho:s.heap.get? l=some o)(hc:o.cls = .type "list" \/ o.cls = .type "tuple")(hd:o.data = .seq vs.toArray n)(hz:vs.length<=xf):lV prog w s (.ref l) vs:=by
  intro A E R h
  unfold collect
  refine wZ (Bb (yp entry_proto_collect' ?_))
  show xM _ _ (do again (.builtin "list.__iadd__" ⟨[<- newList [],.ref l],[]⟩)) _ _ s
  refine wZ (Cm (xn ⟨BJ _ (by decide +kernel),yp entry_list_iadd' ?_⟩))
  show xM _ _ (zj (.ref s.heap.objs.size) (.ref l) (.ref s.heap.objs.size)) _ _ { s with heap:=s.heap.push (seqObj "list" #[] 0) }
  unfold zj
  have ho':(s.heap.push (seqObj "list" #[] 0)).get? l=some o:=wX _ ho
  have cond:∀T,o.cls = .type T->(T = "list" \/ T = "tuple")->xM (xT prog w) A (typeOf (.ref l)) (λt s'=>t = .type T/\s'={ s with heap:=s.heap.push (seqObj "list" #[] 0) }) E { s with heap:=s.heap.push (seqObj "list" #[] 0) }:=λT e _=>Aq (T:=T) ⟨o,ho',e⟩ ⟨rfl,rfl⟩
  obtain ⟨T,eT,hT⟩:∃T,o.cls = .type T/\(T = "list" \/ T = "tuple"):=by
    rcases hc with hc | hc
    · exact ⟨_,hc,.inl rfl⟩
    · exact ⟨_,hc,.inr rfl⟩
  refine wZ (Aq (T:=T) ⟨o,ho',eT⟩ ?_)
  rw[if_pos (by rcases hT with rfl | rfl <;> simp)]
  refine wZ (DQ ho' hd ?_)
  refine wZ (DQ (xs := #[]) (n:=0) (xr _ rfl) rfl ?_)
  rw[if_neg (by simp)]
  refine wZ (Ck (xs := #[]) (n:=0) (xr _ rfl) rfl ?_ (yk _) (by show (#[]++vs.toArray).size<=xf+1;simp only[Au,xc,zV];lia))
  refine xn ?_
  show xM (xT prog w) A (do
      let o ← load s.heap.objs.size
      match o.data with
      | .seq xs _=>pure xs.toList
      | _=>unsupported "internal:collect") R E { s with heap:=(s.heap.push (seqObj "list" #[] 0)).update s.heap.objs.size (yW (· ++ vs.toArray)) }
  refine wZ (DJ (get?_update_seq (xr _ rfl) _) ?_)
  show xM _ _ (pure ((#[]:Array xb)++vs.toArray).toList) R E _
  rw[show ((#[]:Array xb)++vs.toArray).toList=vs by simp]
  refine xn (h _ (λb ob e =>?_) ?_)
  · rw[C6 _ _ _ _ (xF (xt e))]
    exact wX _ e
  · rw[Heap.size_update,Ep]
    exact Br _
end
open PySem PyProof.Rows
theorem lex_irrefl:∀a,HT.lexLt a a=false
 | []=>rfl
 | x :: xs=>by rw[HT.dP,if_pos rfl];exact lex_irrefl xs
theorem lex_trans:∀a b c,HT.lexLt a b=true->HT.lexLt b c=true->HT.lexLt a c=true
 | [],[],_,h,_=>by cases h
 | [],_ :: _,[],_,h=>by cases h
 | [],_ :: _,_ :: _,_,_=>rfl
 | _ :: _,[],_,h,_=>by cases h
 | _ :: _,_ :: _,[],_,h=>by cases h
 | x :: xs,y :: ys,z :: zs,h1,h2=>by
  rw[HT.dP] at *
  by_cases e1:x=y
  ·subst e1
   rw[if_pos rfl] at h1
   by_cases e2:x=z
   ·rw[if_pos e2] at h2 ⊢
    exact lex_trans xs ys zs h1 h2
   ·rw[if_neg e2] at h2 ⊢
    exact h2
  ·rw[if_neg e1] at h1
   have l1:=of_decide_eq_true h1
   by_cases e2:y=z
   ·subst e2
    rw[if_neg e1]
    exact h1
   ·rw[if_neg e2] at h2
    have l2:=of_decide_eq_true h2
    rw[if_neg (by omega)]
    exact decide_eq_true (by omega)
theorem gS:∀a b,HT.lexLt a b=false->HT.lexLt b a=false->a=b
 | [],[],_,_=>rfl
 | [],_ :: _,h,_=>by cases h
 | _ :: _,[],_,h=>by cases h
 | x :: xs,y :: ys,h1,h2=>by
  rw[HT.dP] at *
  by_cases e:x=y
  ·subst e
   rw[if_pos rfl] at h1 h2
   rw[gS xs ys h1 h2]
  ·rw[if_neg e] at h1
   rw[if_neg (zA e)] at h2
   have a1:=of_decide_eq_false h1
   have a2:=of_decide_eq_false h2
   omega
theorem tQ (a b c:List Int)(h:HT.lexLt a c=true):HT.lexLt a b=true\/HT.lexLt b c=true:=by
 cases h1:HT.lexLt a b with
 | true=>exact .inl rfl
 | false =>
  right
  cases h2:HT.lexLt b a with
  | true=>exact lex_trans b a c h2 h
  | false=>rw[<- gS a b h1 h2];exact h
def lexOrd:BN where
 α:=List Int
 blt:=HT.lexLt
 irrefl:=lex_irrefl
 trans:=lex_trans
 negTrans:=tQ
 total:=gS
def intOf:xb->Int
 | .int i _=>i
 | _=>0
section
variable  {prog:xA}{w:xQ}{A:yh}{E:xb->xh->Prop}{s:xh}
def cE (h:Heap)(v:xb):List Int:=match v with
 | .ref p=>match h.get? p with
  | some o=>match o.data with
   | .seq xs _=>xs.toList.map intOf
   | _=>[]
  | none=>[]
 | _=>[]
def cZ (h:Heap)(v:xb)(ns:List Int):Prop:=∃p o xs n,v = .ref p/\h.get? p=some o/\o.cls = .type "tuple" /\ o.data = .seq xs n/\A4 xs.toList ns
theorem ints_map:∀{vs:List xb} {ns:List Int},A4 vs ns->vs.map intOf=ns
 | _,_,.nil=>rfl
 | _,_,.cons n t r=>by rw[xJ,ints_map r];rfl
theorem cZ.ints {h:Heap}{v:xb}{ns:List Int}(x:cZ h v ns):cE h v=ns:=by
 obtain ⟨p,o,xs,n,rfl,e,_,d,r⟩:=x
 unfold cE
 dsimp only
 rw[e]
 dsimp only
 rw[d]
 exact ints_map r
theorem cZ.keeps {h h':Heap}{v:xb}{ns:List Int}(x:cZ h v ns)(k:∀b o,h.get? b=some o->h'.get? b=some o):cZ h' v ns:=by
 obtain ⟨p,o,xs,n,rfl,e,r⟩:=x
 exact ⟨p,o,xs,n,rfl,k _ _ e,r⟩
theorem lW {fin:Bool}{Q:Bool->xh->Prop}:∀{us ws:List xb} {ns ms:List Int} (i:Nat),A4 us ns->A4 ws ms->(fin=true↔(decide (ns.length<ms.length)=true))->Q (HT.lexLt ns ms) s →
  PySem.W.KatLex prog w A true fin Q (us.zip ws) i s
 | _,_,_,_,i,.nil,.nil,hf,q=>by
  refine CG ?_
  have e:fin=false:=by cases fin with
   | false=>rfl
   | true=>have:=hf.mp rfl;simp at this
  rw[e];exact q
 | _,_,_,_,i,.nil,.cons _ _ _,hf,q=>by
  refine CG ?_
  have e:fin=true:=hf.mpr (by simp)
  rw[e];exact q
 | _,_,_,_,i,.cons _ _ _,.nil,hf,q=>by
  refine CG ?_
  have e:fin=false:=by cases fin with
   | false=>rfl
   | true=>have:=hf.mp rfl;simp at this
  rw[e];exact q
 | _,_,_,_,i,.cons (ns:=ns) a t r,.cons (ns:=ms) c u r',hf,q=>by
  rw[Dq]
  refine PySem.W.kat_cons (wpAny_eqBool_int ?_)
  rw[HT.dP] at q
  by_cases e:a=c
  ·rw[if_pos e] at q
   rw[beq_iff_eq.mpr e]
   exact PySem.W.kat_yes (lW (i+1) r r' (by rw[hf];simp) q)
  ·rw[if_neg e] at q
   rw[beq_eq_false_iff_ne.mpr e]
   refine PySem.W.kat_no ?_
   by_cases i0:(true && i == 0)=true
   ·rw[i0]
    exact oneLt_int q
   ·rw[zH.mpr i0,oneLt'_eq]
    simp only[ze,if_false]
    refine wZ (HT.lP _ _ a t c u prog w _ _ ?_)
    exact yV q
theorem iY {h:Heap}:∀{vs:List xb},(∀v∈vs,∃ns,cZ h v ns/\ns≠[])->∃fs,PySem.W.KatTups h vs fs/\fs.length=vs.length/\∀f∈fs,∃i t,f = .int i t
 | [],_=>⟨[],trivial,rfl,λf hf=>by cases hf⟩
 | v :: vs,hv=>by
  obtain ⟨fs,t,l,hf⟩:=iY λu hu=>hv u (xR _ hu)
  obtain ⟨ns,⟨p,o,xs,n,rfl,e,c,d,r⟩,ne⟩:=hv v xN
  have hx:∃i t,xs[0]? = some (.int i t):=by
   rw[<- xy]
   generalize xs.toList=l at r
   cases r with
   | nil=>exact absurd rfl ne
   | cons i t r=>exact ⟨i,t,rfl⟩
  obtain ⟨i,t',hx⟩:=hx
  exact ⟨.int i t' :: fs,Ez e c d hx t,by rw[xV,xV,l],λf hf'=>by
   rcases xK.mp hf' with q | q
   ·exact ⟨i,t',q⟩
   ·exact hf f q⟩
theorem gs {vs:List xb}(hv:∀v∈vs,∃ns,cZ s.heap v ns/\ns≠[]):oK prog w s vs lexOrd (cE s.heap):=by
 refine ⟨λh2 A h6 k6=>⟨tuples' true,λQ E q =>?_,⟨λE st x y Q hk hx hy q =>?_⟩⟩⟩
 ·obtain ⟨fs,t,l,hf⟩:=iY (h:=h6) (vs:=vs) λv hv'=>by
   obtain ⟨ns,i,ne⟩:=hv v hv'
   exact ⟨ns,i.keeps k6,ne⟩
  refine PySem.W.kat_kind (T :=.type "int") t (by lia) (λf hf' =>?_) rfl q
  obtain ⟨i,t',rfl⟩:=hf f hf'
  exact Ey rfl
 ·obtain ⟨ns,i1,_⟩:=hv _ hx.2
  obtain ⟨ms,i2,_⟩:=hv _ hy.2
  have q':Q (some (HT.lexLt (cE s.heap x.1) (cE s.heap y.1))) st:=q
  rw[i1.ints,i2.ints] at q'
  obtain ⟨p1,o1,xs1,n1,e1,g1,c1,d1,r1⟩:=i1.keeps k6
  obtain ⟨p2,o2,xs2,n2,e2,g2,c2,d2,r2⟩:=i2.keeps k6
  rw[lt'_eq]
  refine xC (Cj ?_)
  rw[hk,e1,e2]
  have l1:=r1.length
  have l2:=r2.length
  refine xC (CV (Ci (PySem.W.kat_lt g1 d1 g2 d2 (lW 0 r1 r2 ?_ ⟨rfl,?_⟩))))
  ·rw[<- l1, <- l2,xk,xk]
  ·exact xG q'
end
end Srt
namespace L2
open PySem PySem.Spec PyProof.Rows
theorem iZ {α β:Type}{f:α -> β}:∀{l:List β} {m:List α},l.Perm (m.map f)->∃m':List α,m'.Perm m/\l=m'.map f:=by
 intro l m h
 generalize hk:m.map f=k at h
 induction h generalizing m with
 | nil =>
  have:m=[]:=C7.mp hk
  exact ⟨[],by rw[this],rfl⟩
 | cons x _ ih =>
  match m,hk with
  | y :: m,hk =>
   rw[xJ] at hk
   injection hk with h1 h2
   obtain ⟨m',p,e⟩:=ih h2
   exact ⟨y :: m',p.cons y,by rw[xJ, <- e,h1]⟩
  | [],hk=>cases hk
 | swap x y l =>
  match m,hk with
  | a :: b :: m,hk =>
   rw[xJ,xJ] at hk
   injection hk with h1 h2
   injection h2 with h2 h3
   exact ⟨b :: a :: m,List.Perm.swap a b m,by rw[xJ,xJ,h1,h2,h3]⟩
  | [],hk=>cases hk
  | [_],hk=>simp at hk
 | trans _ _ ih1 ih2 =>
  obtain ⟨m',p,e⟩:=ih2 hk
  obtain ⟨m'',p',e'⟩:=ih1 e.symm
  exact ⟨m'',p'.trans p,e'⟩
theorem dW:∀{ns:List Int} {us:List xb},Vals (ns.map V.int) us->A4 us ns:=λr=>intsAre_of r
theorem kN:∀{us:List xb} {ns:List Int},A4 us ns->Vals (ns.map V.int) us:=λr=>gO r
theorem j5:∀{us:List xb},(∀u∈us,∃i t,u=yJ i t)->A4 us (us.map Srt.intOf)
 | [],_ =>.nil
 | u :: us,h=>by
  obtain ⟨i,t,e⟩:=h u xN
  subst e
  exact .cons i t (j5 λv hv=>h v (xR _ hv))
theorem j6:∀{α:Type} {f:α -> Addr} {ps:List α} {us:List xb},Vals (ps.map λx=>V.ref (f x)) us->us=ps.map λx=>xB (f x)
 | _,_,[],_,r=>by cases r;rfl
 | _,f,p :: ps,_,r=>by
  cases r with
  | cons h t=>rw[xJ, <- j6 t,show _=xB (f p) from h]
theorem gW {α:Type}{f:α -> Addr}:∀{ps:List α},Vals (ps.map λx=>V.ref (f x)) (ps.map λx=>xB (f x))
 | [] =>.nil
 | p :: ps =>.cons rfl gW
section
variable  {X:Cx}
theorem Inv.rK {pins:List (Addr×Obj)}{σ:St}{H:Hp}{s:xh}{p:Addr}{ys:List V}(I:Inv X pins σ H s)(h:SqL X.K H p ys\/SqT X.K H p ys) :
  ∃(its:List xb) (o:Obj) (n:Nat),Vals ys its/\s.heap.get? p=some o/\(o.cls = .type "list" \/ o.cls = .type "tuple")/\o.data = .seq its.toArray n/\ys.length<=xf:=by
 rcases h with h | h
 ·obtain ⟨its,r,⟨o,n,e,c,_,d⟩,z⟩:=I.list h
  exact ⟨its,o,n,r,e,.inl c,d,z⟩
 ·obtain ⟨its,r,⟨o,e,c,n,d⟩,z⟩:=I.tuple h
  exact ⟨its,o,n,r,e,.inr c,d,z⟩
theorem Inv.newList {pins:List (Addr×Obj)}{σ:St}{H:Hp}{s:xh}{h':Heap}{p:Addr}{ys:List V}{its:List xb}{n:Nat}(I:Inv X pins σ H s)(k:∀b o,s.heap.get? b=some o->h'.get? b=some o)(hp:s.heap.objs.size<=p)
  (e:h'.get? p=some { cls :=.type "list",data :=.seq its.toArray n }) (r:Vals ys its) (hz:ys.length<=xf):Inv X pins σ (upd H p (.lst ys)) { s with heap:=h' } :=
 I.laid (t':=s.toks) k hp ⟨hz,its,n,r,e⟩
theorem kO:bK X (.builtin "sorted") (λxs H Q=>∃(p:Addr) (ts:List (Addr×List Int)),xs=[.ref p]/\(SqL X.K H p (ts.map λt =>.ref t.1)\/SqT X.K H p (ts.map λt =>.ref t.1))/\(∀t∈ts,SqT X.K H t.1 (t.2.map V.int)/\t.2≠[]) ∧
  ∀(l:Addr) (out:List (Addr×List Int)),H l=none->out.Perm ts->out.Pairwise (λa b=>HT.lexLt b.2 a.2=false)->Q (.ref l) (upd H l (.lst (out.map λt =>.ref t.1)))):=by
 intro pins s σ H xs us Q I r h
 obtain ⟨p,ts,rfl,hs,ht,q⟩:=h
 obtain ⟨u,rfl,ru⟩:=vals1 r
 cases (show u=xB p from ru)
 obtain ⟨its,o,n,rv,e,c,d,z⟩:=I.rK hs
 have ei:=j6 rv
 have lz:its.length<=xf:=by rw[<- rv.length];exact z
 have tup:∀t∈ts,Srt.cZ s.heap (xB t.1) t.2:=λt hm=>by
  obtain ⟨jts,jr,⟨jo,je,jc,jn,jd⟩,_⟩:=I.tuple (ht t hm).1
  exact ⟨t.1,jo,_,jn,rfl,je,jc,jd,by simpa using dW jr⟩
 have hv:∀v∈its,∃ns,Srt.cZ s.heap v ns/\ns≠[]:=λv hv=>by
  rw[ei] at hv
  obtain ⟨t,hm,rfl⟩:=yG.mp hv
  exact ⟨t.2,tup t hm,(ht t hm).2⟩
 refine Srt.nv (Srt.kM e c d lz) lz (Srt.gs hv) λh' l out m k hl el pm ps =>?_
 rw[ei] at pm
 obtain ⟨out',pm',rfl⟩:=iZ pm
 refine ⟨.ref l,_,I.newList k hl el gW (by rw[wW,pm'.length_eq, <- wW (f:=λt:Addr×List Int=>V.ref t.1)];exact z),rfl,q l _ (I.hok.fresh hl) pm' ?_⟩
 refine (zq.mp ps).imp_of_mem λ{a b} ha hb le =>?_
 have le':HT.lexLt (Srt.cE s.heap (xB b.1)) (Srt.cE s.heap (xB a.1))=false:=le
 rw[(tup a (pm'.mem_iff.mp ha)).ints,(tup b (pm'.mem_iff.mp hb)).ints] at le'
 exact le'
end
open PySem PySem.Spec PyProof.Rows
def Tp (H H':Hp):Prop:=∀b xs,H b=some (.tup xs)->H' b=some (.tup xs)
theorem aK.tp {H H':Hp}(a:aK H H'):Tp H H':=λc u h=>a c _ h
open PySem PySem.Spec PyProof.Rows
section
variable  {X:Cx}{tg:Expr}
def iSeq (K:wY)(tl:TE):TI:=λσ H R=>tl σ H λx H1=>∃a,x = .ref a/\(((∃xs,SqL K H1 a xs)/\R (Itl K a) H1)\/((∃xs,SqT K H1 a xs)/\R (Itt K a) H1))
theorem rL {l:Expr}{tl:TE}(hl:PE X l tl):PI X tg l (iSeq X.K tl):=by
 intro pins s σ H R I h;refine thn (hl pins s σ H _ I h) λv s1 ⟨x,H1,I1,r1,q1⟩ =>?_
 obtain ⟨a,e,q1⟩:=q1
 subst e
 cases r1
 have fp:∀b∈[s1.heap.objs.size],iy X pins H1 b:=λb hb=>by
  have e:b=s1.heap.objs.size:=by simpa using hb
  rw[e];exact I1.pM (xg _) (I1.hok.fresh (xg _))
 rcases q1 with ⟨⟨xs,hq⟩,q⟩ | ⟨⟨xs,hq⟩,q⟩
 ·obtain ⟨its,rv,p,hz⟩:=I1.list hq;refine Ax p.isList ?_
  exact ⟨s1.heap.objs.size,_,_,_,H1,rfl,I1.kept (t':=s1.toks) (λb o e=>wX _ e),jS a _,⟨_,xr _ rfl,rfl,rfl⟩,fp,q⟩
 ·obtain ⟨its,rv,p,hz⟩:=I1.tuple hq;refine zi (show s1.heap.IsTuple a its.toArray from p) ?_
  exact ⟨s1.heap.objs.size,_,_,_,H1,rfl,I1.kept (t':=s1.toks) (λb o e=>wX _ e),iQ a _,⟨_,xr _ rfl,rfl,rfl⟩,fp,q⟩
end
theorem qa {K:wY}{a:Addr}{xs:List V}{k:Nat}{tc:TT}{te:TE}{τ:St}{H:Hp}{Q:VK}(Pv:Nat->List V->Hp->Prop)(hp:H a=some (.lst xs)\/H a=some (.tup xs))(h0:Pv 0 [] H)(hz:xs.length<=xf)
  (hl:∀i ys H',Pv i ys H'->H' a=H a) (hs:∀i x ys H,xs[i]? = some x->ys.length<=i->Pv i ys H->oA k tc te τ Pv i x ys H)
  (hd:∀ys H,ys.length<=xs.length->Pv xs.length ys H->∀l,H l=none->Q (.ref l) (upd H l (.lst ys))) :
  ((∃xs,SqL K H a xs)/\eS (Itl K a) (dD k) tc te τ Q H)\/((∃xs,SqT K H a xs)/\eS (Itt K a) (dD k) tc te τ Q H):=by
 rcases hp with hp | hp
 ·exact .inl ⟨⟨_,SqL.of hp⟩,dR Pv h0 hz (λi ys H' _ z=>SqL.of ((hl i ys H' z).trans hp)) hs hd⟩
 ·exact .inr ⟨⟨_,SqT.of hp⟩,gP Pv h0 hz (λi ys H' _ z=>SqT.of ((hl i ys H' z).trans hp)) hs hd⟩
theorem lX {X:Cx}{K:wY}{x y:Str}{i j k:Nat}{p p' pos:Pos}(hN:X.N.Nodup)(hi:X.N[i]? = some x)(hj:X.N[j]? = some y)(hx:Loc X.env.scope x)(hy:Loc X.env.scope y)(hc:X.calm=true:=by rfl)(h:X.K=K:=by rfl)
  (hf:X.fn x=true\/X.env.scope.names.lookup x=some .local:=by first | exact .inl rfl | exact .inr rfl) (hg:X.fn y=true\/X.env.scope.names.lookup y=some .local:=by first | exact .inl rfl | exact .inr rfl):PG X (.Tuple [.Name x p,.Name y p'] k pos) (rj K i j):=by
 subst h
 exact iO hc (bQ (aD hN hi hx hf) (bQ (aD hN hj hy hg) gi))
end L2
namespace STab
open PySem PySem.SetTable
def nz (xs:Array Nat):Prop:=∀i j a b:Nat,xs[i]? = some a->xs[j]? = some b->i<j->a<b
theorem rM {xs:Array Nat}(R:nz xs)(j:Nat):∀(fuel lo hi:Nat),lo<=hi->hi<=xs.size->hi-lo<=fuel →
  (∀i a,i<lo->xs[i]? = some a->a<j)->(∀i a,hi<=i->xs[i]? = some a->j<=a) →
  below.go xs j fuel lo hi<=xs.size/\(∀i a,xs[i]? = some a->(i<below.go xs j fuel lo hi↔a<j)):=by
 intro fuel
 induction fuel with
 | zero =>
  intro lo hi h1 h2 h3 h4 h5
  unfold below.go
  refine ⟨by lia,λi a e=>⟨λq=>h4 i a q e,λq =>?_⟩⟩
  apply AD
  intro q2
  have:=h5 i a (by lia) e
  lia
 | succ fuel ih =>
  intro lo hi h1 h2 h3 h4 h5
  unfold below.go
  by_cases hl:lo<hi
  ·rw[if_pos hl]
   dsimp only
   have hm:(lo+hi)/2<xs.size:=by lia
   have em:xs[(lo+hi)/2]? = some xs[(lo+hi)/2]:=yw hm
   have eg:xs.getD ((lo+hi)/2) j=xs[(lo+hi)/2]:=by simp[Array.getD,hm]
   rw[eg]
   by_cases hc:xs[(lo+hi)/2]<j
   ·rw[if_pos hc]
    refine ih _ _ (by lia) h2 (by lia) (λi a q e =>?_) h5
    by_cases q2:i=(lo+hi)/2
    ·rw[q2,em] at e;cases e;exact hc
    ·exact CH (R i _ _ _ e em (by lia)) hc
   ·rw[if_neg hc]
    refine ih _ _ (by lia) (by lia) (by lia) h4 (λi a q e =>?_)
    by_cases q2:i=(lo+hi)/2
    ·rw[q2,em] at e;cases e;lia
    ·have:=R _ i _ _ em e (by lia)
     lia
  ·rw[if_neg hl]
   refine ⟨by lia,λi a e=>⟨λq=>h4 i a q e,λq =>?_⟩⟩
   apply AD
   intro q2
   have:=h5 i a (by lia) e
   lia
theorem fQ {xs:Array Nat}(R:nz xs)(j:Nat):below xs j<=xs.size/\∀i a,xs[i]? = some a->(i<below xs j↔a<j) :=
 rM R j _ _ _ (yk _) (xg _) (by lia) (λi a h=>by lia) λi a h e=>by
  rw[Af (by lia)] at e;cases e
theorem below_at {xs:Array Nat}(R:nz xs){i j:Nat}(h:xs[i]? = some j):below xs j=i:=by
 obtain ⟨h1,h2⟩:=fQ R j
 have hi:i<xs.size:=by
  apply AD;intro q;rw[Af q] at h;cases h
 have a1:¬ i<below xs j:=λq=>by have:=(h2 i j h).mp q;lia
 apply CB (by lia)
 apply DT
 intro q
 have e:=yw (xs:=xs) (i:=below xs j) (by lia)
 have l1:=R _ _ _ _ e h q
 have:=(h2 _ _ e).mpr l1
 lia
theorem bM {α:Type}(xs:Array α)(p:Nat)(x:α):(insertAt xs p x).toList=xs.toList.take p++x :: xs.toList.drop p:=by
 unfold insertAt
 simp
 rw[yq (by simp)]
theorem bX {α:Type}(xs:Array α){p:Nat}(hp:p<=xs.size)(x:α)(i:Nat) :
  (insertAt xs p x)[i]? = if i<p then xs[i]? else if i=p then some x else xs[i-1]? := by
 rw[<- xy,bM]
 have hl:(xs.toList.take p).length=p:=by rw[yy,xk];lia
 by_cases h1:i<p
 ·rw[if_pos h1,zP (by lia),zg,if_pos h1,xy]
 ·rw[if_neg h1,zL (by lia),hl]
  by_cases h2:i=p
  ·rw[if_pos h2,h2,Nat.sub_self];rfl
  ·rw[if_neg h2]
   obtain ⟨d,hd⟩:∃d,i-p=d+1:=⟨i-p-1,by lia⟩
   rw[hd,z9,Ai,xy]
   congr 1;lia
theorem cF {α:Type}(xs:Array α)(p:Nat)(x:α):(insertAt xs p x).size=xs.size+1:=by
 rw[<- xk,bM,w9,xV,yy,y3,xk]
 lia
theorem insertAt_perm {α:Type}(xs:Array α)(p:Nat)(x:α):(insertAt xs p x).toList.Perm (x :: xs.toList):=by
 rw[bM]
 exact DU.trans (by rw[zy])
theorem gu {α β:Type}(xs:Array α)(p:Nat)(x:α)(f:α -> β):(insertAt xs p x).map f=insertAt (xs.map f) p (f x):=by
 apply DW.mp
 rw[Bh,bM,bM,Bh,xq,xJ,Av,Dr]
theorem jD {xs:Array Nat}(R:nz xs){j:Nat}(hj:∀i:Nat,xs[i]? ≠ some j):nz (insertAt xs (below xs j) j):=by
 obtain ⟨h1,h2⟩:=fQ R j
 intro a b x y ea eb hab
 rw[bX _ h1] at ea eb
 by_cases a1:a<below xs j
 ·rw[if_pos a1] at ea
  have:=(h2 _ _ ea).mp a1
  by_cases b1:b<below xs j
  ·rw[if_pos b1] at eb;exact R _ _ _ _ ea eb hab
  ·rw[if_neg b1] at eb
   by_cases b2:b=below xs j
   ·rw[if_pos b2] at eb;cases eb;exact this
   ·rw[if_neg b2] at eb
    exact R _ _ _ _ ea eb (by lia)
 ·rw[if_neg a1] at ea
  rw[if_neg (by lia),if_neg (by lia)] at eb
  have l1:¬ y<j:=λq=>by have:=(h2 _ _ eb).mpr q;lia
  by_cases a2:a=below xs j
  ·rw[if_pos a2] at ea;cases ea
   have:y≠j:=λq=>hj _ (q ▸ eb)
   lia
  ·rw[if_neg a2] at ea
   exact R _ _ _ _ ea eb (by lia)
def occ (t:SetTable)(j:Nat):Prop:=∃i:Nat,t.place[i]? = some j
theorem j7 {t:SetTable}(R:nz t.place){i j:Nat}(h:t.place[i]? = some j):t.slot j = .live i:=by
 unfold SetTable.slot
 dsimp only
 rw[below_at R h,h]
 simp
theorem nA {t:SetTable}(D:t.dummies = #[]){j:Nat}(h:¬ occ t j):t.slot j = .empty:=by
 unfold SetTable.slot
 dsimp only
 have h1:(t.place[below t.place j]? == some j)=false:=by
  rw[beq_eq_false_iff_ne];exact λq=>h ⟨_,q⟩
 rw[h1,D]
 simp[has]
def adv (mask:Nat)(p:Probe):Probe :=
 if p.more>0 then { p with j:=p.j+1,more:=p.more-1 } else
 let (i,perturb):=leap mask p.i p.perturb
 { p with j:=i,more:=runEnd mask i-i,i,perturb }
def cG (mask i perturb:Nat):Probe:={ j:=i,more:=runEnd mask i-i,i,perturb,dummy:=none }
def start (mask:Nat)(h:Int):Probe:=cG mask (bits h%(mask+1)) (bits h)
inductive Way (oc:Nat->Prop)(mask:Nat):Nat->Probe->Probe->Prop
 | here (p:Probe):Way oc mask 0 p p
 | step {n:Nat} {p q:Probe}:oc p.j->Way oc mask n (adv mask p) q->Way oc mask (n+1) p q
theorem Way.mono {oc oc':Nat->Prop}{mask n:Nat}{p q:Probe}(m:∀j,oc j->oc' j)(h:Way oc mask n p q):Way oc' mask n p q:=by
 induction h with
 | here p=>exact .here p
 | step a _ ih=>exact .step (m _ a) ih
theorem Way.dummy {oc:Nat->Prop}{mask n:Nat}{p q:Probe}(h:Way oc mask n p q):q.dummy=p.dummy:=by
 induction h with
 | here p=>rfl
 | @step n p q _ _ ih =>
  rw[ih];unfold adv;split <;> rfl
theorem vC {mask:Nat}{p:Probe}(h:p.j+p.more<=mask):(adv mask p).j+(adv mask p).more<=mask:=by
 unfold adv
 split
 ·dsimp only;lia
 ·dsimp only[leap]
  have:(p.i*5+1+p.perturb/32)%(mask+1)<mask+1:=Bo _ (AL mask)
  unfold runEnd
  split <;> lia
theorem lZ (mask:Nat)(h:Int):(start mask h).j+(start mask h).more<=mask:=by
 unfold start cG
 dsimp only
 have:bits h%(mask+1)<mask+1:=Bo _ (AL mask)
 unfold runEnd
 split <;> lia
theorem Way.le {oc:Nat->Prop}{mask n:Nat}{p q:Probe}(h:Way oc mask n p q):p.j+p.more<=mask->q.j<=mask:=by
 induction h with
 | here p=>intro;lia
 | step _ _ ih=>intro h;exact ih (vC h)
def kP (mask:Nat):Nat->Probe->Probe
 | 0,p=>p
 | n+1,p=>kP mask n (adv mask p)
theorem l7 (mask:Nat):∀(a b:Nat) (p:Probe),kP mask (a+b) p=kP mask b (kP mask a p)
 | 0,b,p=>by rw[z5];rfl
 | a+1,b,p=>by rw[show a+1+b=(a+b)+1 by lia];exact l7 mask a b (adv mask p)
theorem qb (oc:Nat->Prop)(mask:Nat):∀(n:Nat) (p:Probe),¬ oc (kP mask n p).j->∃k q,k<=n/\Way oc mask k p q/\¬ oc q.j:=by
 intro n
 induction n with
 | zero=>intro p h;exact ⟨0,p,xg _,.here p,h⟩
 | succ n ih =>
  intro p h
  by_cases hp:oc p.j
  ·obtain ⟨k,q,a,b,c⟩:=ih (adv mask p) h
   exact ⟨k+1,q,by lia,.step hp b,c⟩
  ·exact ⟨0,p,yk _,.here p,hp⟩
theorem tR (mask:Nat):∀(m:Nat) (p:Probe),p.more=m->p.dummy=none->kP mask (m+1) p=cG mask (leap mask p.i p.perturb).1 (leap mask p.i p.perturb).2:=by
 intro m
 induction m with
 | zero =>
  intro p h d
  show adv mask p=_
  unfold adv
  rw[if_neg (by lia)]
  obtain ⟨j,mo,i,pe,dm⟩:=p
  cases d
  rfl
 | succ m ih =>
  intro p h d
  show kP mask (m+1) (adv mask p)=_
  have e:adv mask p={ p with j:=p.j+1,more:=p.more-1 }:=by unfold adv;rw[if_pos (by lia)]
  rw[e]
  exact ih _ (by dsimp only;lia) d
def cn (mask:Nat):Nat->Nat×Nat->Nat×Nat
 | 0,x=>x
 | k+1,x=>cn mask k (leap mask x.1 x.2)
theorem j8 (mask:Nat):∀(a b:Nat) (x:Nat×Nat),cn mask (a+b) x=cn mask b (cn mask a x)
 | 0,b,x=>by rw[z5];rfl
 | a+1,b,x=>by rw[show a+1+b=(a+b)+1 by lia];exact j8 mask a b _
theorem more_le (mask i:Nat):runEnd mask i-i<=9:=by unfold runEnd;split <;> lia
theorem nB (mask:Nat):∀(k i pe:Nat),∃n,n<=10*k/\kP mask n (cG mask i pe)=cG mask (cn mask k (i,pe)).1 (cn mask k (i,pe)).2:=by
 intro k
 induction k with
 | zero=>intro i pe;exact ⟨0,by lia,rfl⟩
 | succ k ih =>
  intro i pe
  obtain ⟨n,h1,h2⟩:=ih (leap mask i pe).1 (leap mask i pe).2
  refine ⟨(runEnd mask i-i+1)+n,by have:=more_le mask i;lia,?_⟩
  rw[l7,tR mask (runEnd mask i-i) (cG mask i pe) rfl rfl]
  exact h2
theorem fM (mask:Nat):∀(k i pe:Nat),(cn mask k (i,pe)).2=pe/32 ^ k
 | 0,i,pe=>by simp[cn]
 | k+1,i,pe=>by
  show (cn mask k (leap mask i pe)).2=_
  rw[show leap mask i pe=((leap mask i pe).1,pe/32) from rfl,fM mask k,Nat.div_div_eq_div_mul,Nat.pow_succ,Nat.mul_comm 32]
theorem l8 (mask:Nat):∀(k i pe:Nat),i<=mask->(cn mask k (i,pe)).1<=mask
 | 0,i,pe,h=>h
 | k+1,i,pe,h=>by
  show (cn mask k (leap mask i pe)).1<=mask
  rw[show leap mask i pe=((leap mask i pe).1,pe/32) from rfl]
  exact l8 mask k _ _ (Aw (Bo _ (AL mask)))
def ste (m i:Nat):Nat:=(i*5+1)%m
def its (m:Nat):Nat->Nat->Nat
 | 0,i=>i
 | n+1,i=>its m n (ste m i)
theorem iB (m:Nat):∀(a b i:Nat),its m (a+b) i=its m b (its m a i)
 | 0,b,i=>by rw[z5];rfl
 | a+1,b,i=>by rw[show a+1+b=(a+b)+1 by lia];exact iB m a b _
def orb (m:Nat):Nat->Nat->List Nat
 | 0,_=>[]
 | n+1,i=>i :: orb m n (ste m i)
theorem kQ (m:Nat):∀(n i j:Nat),j∈orb m n i->∃r,r<n/\its m r i=j
 | 0,i,j,h=>by cases h
 | n+1,i,j,h=>by
  rcases xK.mp h with h | h
  ·exact ⟨0,by lia,h.symm⟩
  ·obtain ⟨r,a,b⟩:=kQ m n _ _ h
   exact ⟨r+1,by lia,b⟩
def whole (m:Nat):Bool:=((yj m).all λj=>(orb m m 0).contains j) && (its m m 0 == 0)
theorem qc {m:Nat}(h:whole m=true){i j:Nat}(hi:i<m)(hj:j<m):∃r,r<m/\its m r i=j:=by
 unfold whole at h
 rw[yz,yU,beq_iff_eq] at h
 obtain ⟨h1,h2⟩:=h
 obtain ⟨a,a1,a2⟩:=kQ m m 0 i (CI.mp (h1 i (yf.mpr hi)))
 obtain ⟨b,b1,b2⟩:=kQ m m 0 j (CI.mp (h1 j (yf.mpr hj)))
 by_cases hab:a<=b
 ·refine ⟨b-a,by lia,?_⟩
  rw[<- a2, <- iB,show a+(b-a)=b by lia]
  exact b2
 ·refine ⟨m+b-a,by lia,?_⟩
  rw[<- a2, <- iB,show a+(m+b-a)=m+b by lia,iB,h2]
  exact b2
theorem vD:whole 8=true:=by decide +kernel
theorem tS:whole 32=true:=by decide +kernel
theorem rN:whole 128=true:=by decide +kernel
theorem rO:whole 512=true:=by decide +kernel
def Msk (mask:Nat):Prop:=mask=7\/mask=31\/mask=127\/mask=511
theorem Msk.whole {mask:Nat}(h:Msk mask):whole (mask+1)=true:=by
 rcases h with rfl | rfl | rfl | rfl
 ·exact vD
 ·exact tS
 ·exact rN
 ·exact rO
theorem j9 (mask:Nat):∀(r i:Nat),cn mask r (i,0)=(its (mask+1) r i,0)
 | 0,i=>rfl
 | r+1,i=>by
  show cn mask r (leap mask i 0)=_
  rw[show leap mask i 0=(ste (mask+1) i,0) from rfl,j9 mask r];rfl
theorem tT (h:Int):bits h<2 ^ 64:=by
 unfold bits
 have h1:=AX h (show (0:Int)<2 ^ 64 by decide)
 have h0:=Bt h (show (2 ^ 64:Int)≠0 by decide)
 have:((2 ^ 64:Nat):Int)=2 ^ 64:=by decide
 lia
theorem i3 {mask:Nat}(hm:Msk mask){h:Int}{j:Nat}(hj:j<=mask):∃k,k<turns mask/\(cn mask k (bits h%(mask+1),bits h)).1=j:=by
 have p0:(cn mask 13 (bits h%(mask+1),bits h)).2=0:=by
  rw[fM]
  exact Nat.div_eq_of_lt (xH (tT h) (by decide))
 have i0:=l8 mask 13 (bits h%(mask+1)) (bits h) (Aw (Bo _ (AL mask)))
 obtain ⟨r,r1,r2⟩:=qc hm.whole (i:=(cn mask 13 (bits h%(mask+1),bits h)).1) (j:=j) (by lia) (by lia)
 refine ⟨13+r,by unfold turns;lia,?_⟩
 rw[j8,show cn mask 13 (bits h%(mask+1),bits h)=((cn mask 13 (bits h%(mask+1),bits h)).1,0) from Es rfl p0,j9]
 exact r2
theorem rP {mask:Nat}(hm:Msk mask)(oc:Nat->Prop)(h:Int){j:Nat}(hj:j<=mask)(he:¬ oc j):∃n q,n<10*turns mask/\Way oc mask n (start mask h) q/\¬ oc q.j/\q.j<=mask/\q.dummy=none:=by
 obtain ⟨k,k1,k2⟩:=i3 hm (h:=h) hj
 obtain ⟨n,n1,n2⟩:=nB mask k (bits h%(mask+1)) (bits h)
 obtain ⟨n',q,a,b,c⟩:=qb oc mask n (start mask h) (by
  show ¬ oc (kP mask n (cG mask _ _)).j
  rw[n2]
  show ¬ oc (cn mask k (bits h%(mask+1),bits h)).1
  rw[k2]
  exact he)
 exact ⟨n',q,by lia,b,c,b.le (lZ mask h),b.dummy⟩
theorem kg {mask n:Nat}(oc:Nat->Prop)(f:Nat->Nat)(hf:∀j,j<=mask->oc j->f j<n)(inj:∀i j,i<=mask->j<=mask->oc i->oc j->f i=f j->i=j)(hn:n<=mask):∃j,j<=mask/\¬ oc j:=by
 by_cases q:∃j,j<=mask/\¬ oc j
 ·exact q
 ·exfalso
  have all:∀j,j<=mask->oc j:=λj hj=>by
   by_cases o:oc j
   ·exact o
   ·exact absurd ⟨j,hj,o⟩ q
  have nd:((yj (mask+1)).map f).Nodup:=by
   unfold List.Nodup
   rw[zq]
   refine AM (λ{a b} ha hb hab e=>hab (inj a b ?_ ?_ (all _ ?_) (all _ ?_) e)) (DX)
   all_goals (rw[yf] at ha hb;lia)
  have:=z6 nd (l₂:=yj n) (λx hx=>by
   obtain ⟨j,hj,e⟩:=yG.mp hx
   rw[yf] at hj ⊢
   rw[<- e]
   exact hf j (by lia) (all j (by lia)))
  rw[wW,y9,y9] at this
  lia
open PySem PySem.SetTable
structure Tab (t:SetTable)(hs:Array Int):Prop where
 dm:t.dummies = #[]
 rise:nz t.place
 size:t.place.size=hs.size
 le:∀i j:Nat,t.place[i]? = some j->j<=t.mask
 msk:Msk t.mask
 fit:hs.size<=t.mask
 reach:∀(i j:Nat) (h:Int),t.place[i]? = some j->hs[i]? = some h->∃n q,Way (occ t) t.mask n (start t.mask h) q/\q.j=j
theorem fC {α:Type}{xs:Array α}{i:Nat}{a:α}(h:xs[i]? = some a):i<xs.size:=by
 apply AD;intro q;rw[Af q] at h;cases h
theorem Tab.fill {t:SetTable}{hs:Array Int}(T:Tab t hs):t.fill=hs.size:=by
 unfold SetTable.fill;rw[T.dm,T.size];rfl
theorem Tab.fits {t:SetTable}{hs:Array Int}(T:Tab t hs):t.fits hs.size=true:=by
 unfold SetTable.fits
 rw[T.fill,T.size]
 simp[T.fit]
theorem Tab.ends {t:SetTable}{hs:Array Int}(T:Tab t hs)(h:Int):∃n q,n<10*turns t.mask/\Way (occ t) t.mask n (start t.mask h) q/\¬ occ t q.j/\q.j<=t.mask/\q.dummy=none:=by
 obtain ⟨j,hj,he⟩:=kg (mask:=t.mask) (n:=hs.size) (occ t) (λj=>below t.place j)
  (λj _ ⟨i,e⟩=>by show below t.place j<hs.size;rw[below_at T.rise e, <- T.size];exact fC e)
  (λi j _ _ ⟨a,ea⟩ ⟨b,eb⟩ e=>by
   have e':below t.place i=below t.place j:=e
   rw[below_at T.rise ea,below_at T.rise eb] at e'
   subst e'
   exact x9 (ea.symm.trans eb)) T.fit
 exact rP T.msk (occ t) h hj he
theorem rQ {t:SetTable}{hs:Array Int}(T:Tab t hs){H:Nat->Int}{h:Int}:∀(n:Nat) (p q:Probe) (fuel:Nat),Way (occ t) t.mask n p q->¬ occ t q.j->n<fuel->p.dummy=none →
  (SetTable.probe.go t H h fuel p=some (.empty q.j none)/\∀k r i,Way (occ t) t.mask k p r->t.place[i]? = some r.j->H i≠h) ∨
  (∃k r i,k<n/\Way (occ t) t.mask k p r/\t.place[i]? = some r.j/\H i=h/\SetTable.probe.go t H h fuel p=some (.candidate r.j i (adv t.mask r))/\Way (occ t) t.mask (n-k-1) (adv t.mask r) q/\(adv t.mask r).dummy=none
   /\ ∀k' r' i',k'<k->Way (occ t) t.mask k' p r'->t.place[i']? = some r'.j->H i'≠h):=by
 intro n
 induction n with
 | zero =>
  intro p q fuel W he hf hd
  cases W
  obtain ⟨fuel,rfl⟩:∃f,fuel=f+1:=⟨fuel-1,by lia⟩
  refine .inl ⟨?_,λk r i Wr er =>?_⟩
  ·unfold SetTable.probe.go
   rw[nA T.dm he]
   dsimp only
   rw[hd]
  ·cases Wr with
   | here=>exact absurd ⟨i,er⟩ he
   | step a _=>exact absurd a he
 | succ n ih =>
  intro p q fuel W he hf hd
  obtain ⟨fuel,rfl⟩:∃f,fuel=f+1:=⟨fuel-1,by lia⟩
  cases W with
  | step a W =>
   obtain ⟨i,ei⟩:=a
   have hd':(adv t.mask p).dummy=none:=by rw[<- hd];unfold adv;split <;> rfl
   by_cases hh:H i=h
   ·refine .inr ⟨0,p,i,by lia,.here p,ei,hh,?_,W,hd',λk' r' i' hk=>by lia⟩
    unfold SetTable.probe.go
    rw[j7 T.rise ei]
    dsimp only
    rw[if_pos (by rw[hh];exact beq_self_eq_true h)]
    rfl
   ·have e0:SetTable.probe.go t H h (fuel+1) p=SetTable.probe.go t H h fuel (adv t.mask p):=by
     conv=>lhs;unfold SetTable.probe.go
     rw[j7 T.rise ei]
     dsimp only
     rw[if_neg (by rw[beq_iff_eq];exact hh)]
     rfl
    rcases ih (adv t.mask p) q fuel W he (by lia) hd' with ⟨r1,r2⟩ | ⟨k,r,i',k1,w1,e1,h1,g1,w2,d2,no⟩
    ·refine .inl ⟨e0.trans r1,λk r j Wr er =>?_⟩
     cases Wr with
     | here =>
      obtain rfl:i=j:=by
       have x:=below_at T.rise ei
       have y:=below_at T.rise er
       exact x.symm.trans y
      exact hh
     | step _ Wr=>exact r2 _ _ _ Wr er
    ·refine .inr ⟨k+1,r,i',by lia,.step ⟨i,ei⟩ w1,e1,h1,e0.trans g1,by rw[show n+1-(k+1)-1=n-k-1 by lia];exact w2,d2,λk' r' j hk Wr er =>?_⟩
     cases Wr with
     | here =>
      obtain rfl:i=j:=by
       have x:=below_at T.rise ei
       have y:=below_at T.rise er
       exact x.symm.trans y
      exact hh
     | step _ Wr=>exact no _ _ _ (by lia) Wr er
theorem rR {t:SetTable}{hs:Array Int}(T:Tab t hs){H:Nat->Int}{h:Int}{n:Nat}{p q:Probe}(W:Way (occ t) t.mask n p q)(he:¬ occ t q.j)(hn:n<10*turns t.mask)(hd:p.dummy=none) :
  (t.probe H h p=some (.empty q.j none)/\∀k r i,Way (occ t) t.mask k p r->t.place[i]? = some r.j->H i≠h) ∨
  (∃k r i,k<n/\Way (occ t) t.mask k p r/\t.place[i]? = some r.j/\H i=h/\t.probe H h p=some (.candidate r.j i (adv t.mask r))/\Way (occ t) t.mask (n-k-1) (adv t.mask r) q/\(adv t.mask r).dummy=none
   /\ ∀k' r' i',k'<k->Way (occ t) t.mask k' p r'->t.place[i']? = some r'.j->H i'≠h) :=
 rQ T n p q _ W he hn hd
theorem Tab.vE {t:SetTable}{hs:Array Int}(T:Tab t hs)(j:Nat):t.put j=({ t with place:=insertAt t.place (below t.place j) j },below t.place j):=by
 unfold SetTable.put
 dsimp only
 have:has t.dummies j=false:=by rw[T.dm];simp[has]
 rw[this]
 rfl
theorem Tab.put {t:SetTable}{hs:Array Int}(T:Tab t hs){h:Int}{n:Nat}{q:Probe}(W:Way (occ t) t.mask n (start t.mask h) q)(he:¬ occ t q.j)(hq:q.j<=t.mask)(hf:hs.size+1<=t.mask) :
  Tab { t with place:=insertAt t.place (below t.place q.j) q.j } (insertAt hs (below t.place q.j) h):=by
 have hp:=(fQ T.rise q.j).1
 have hp':below t.place q.j<=hs.size:=by rw[<- T.size];exact hp
 have up:∀j,occ t j->occ { t with place:=insertAt t.place (below t.place q.j) q.j } j:=by
  rintro j ⟨i,e⟩
  by_cases l:i<below t.place q.j
  ·exact ⟨i,by show (insertAt _ _ _)[i]? = _;rw[bX _ hp,if_pos l];exact e⟩
  ·exact ⟨i+1,by show (insertAt _ _ _)[i+1]? = _;rw[bX _ hp,if_neg (by lia),if_neg (by lia)];exact e⟩
 refine ⟨T.dm,jD T.rise λi e=>he ⟨i,e⟩,?_,λi j e =>?_,T.msk,by rw[cF];exact hf,λi j h' e eh =>?_⟩
 ·show (insertAt _ _ _).size=_
  rw[cF,cF,T.size]
 ·have e':(insertAt t.place (below t.place q.j) q.j)[i]? = some j:=e
  rw[bX _ hp] at e'
  split at e'
  ·exact T.le _ _ e'
  ·split at e'
   ·cases e';exact hq
   ·exact T.le _ _ e'
 ·have e':(insertAt t.place (below t.place q.j) q.j)[i]? = some j:=e
  rw[bX _ hp] at e'
  rw[bX _ hp'] at eh
  by_cases l1:i<below t.place q.j
  ·rw[if_pos l1] at e' eh
   obtain ⟨n',q',w,eq⟩:=T.reach _ _ _ e' eh
   exact ⟨n',q',w.mono up,eq⟩
  ·rw[if_neg l1] at e' eh
   by_cases l2:i=below t.place q.j
   ·rw[if_pos l2] at e' eh
    cases e';cases eh
    exact ⟨n,q,W.mono up,rfl⟩
   ·rw[if_neg l2] at e' eh
    obtain ⟨n',q',w,eq⟩:=T.reach _ _ _ e' eh
    exact ⟨n',q',w.mono up,eq⟩
def ocw (owner:Array (Option Nat))(j:Nat):Prop:=∃k,owner[j]? = some (some k)
theorem Way.trans {oc:Nat->Prop}{mask n m:Nat}{p q r:Probe}(h:Way oc mask n p q)(h2:Way oc mask m q r):∃k,Way oc mask k p r:=by
 induction h with
 | here=>exact ⟨m,h2⟩
 | step a _ ih=>obtain ⟨k,w⟩:=ih h2;exact ⟨k+1,.step a w⟩
theorem kR (oc:Nat->Prop)(mask:Nat):∀(k:Nat) (p:Probe),k<=p.more->(∀k',k'<k->oc (p.j+k'))->Way oc mask k p { p with j:=p.j+k,more:=p.more-k }
 | 0,p,_,_ =>.here p
 | k+1,p,h,ho=>by
  have e:adv mask p={ p with j:=p.j+1,more:=p.more-1 }:=by unfold adv;rw[if_pos (by lia)]
  refine .step (ho 0 (by lia)) ?_
  rw[e]
  have:=kR oc mask k { p with j:=p.j+1,more:=p.more-1 } (by dsimp only;lia) λk' hk=>by
   have:=ho (k'+1) (by lia)
   rw[show p.j+(k'+1)=p.j+1+k' by lia] at this
   exact this
  dsimp only at this
  rw[show p.j+1+k=p.j+(k+1) by lia,show p.more-1-k=p.more-(k+1) by lia] at this
  exact this
theorem e7 {owner:Array (Option Nat)}{mask j:Nat}(hs:owner.size=mask+1)(hj:j<=mask):(owner.getD j (some 0)).isNone=true↔¬ ocw owner j:=by
 have hl:j<owner.size:=by lia
 have e:owner[j]? = some owner[j]:=yw hl
 rw[show owner.getD j (some 0)=owner[j] by simp[Array.getD,hl]]
 unfold ocw
 rw[e]
 cases owner[j] with
 | none=>simp
 | some k=>simp
theorem kh {mask i:Nat}(h:i<=mask):runEnd mask i<=mask/\i<=runEnd mask i:=by
 unfold runEnd;split <;> lia
theorem qd {mask:Nat}{owner:Array (Option Nat)}(hs:owner.size=mask+1):∀(fuel i pe j:Nat),i<=mask->SetTable.layClean.free mask owner fuel i pe=some j →
  ¬ ocw owner j/\∃n q,Way (ocw owner) mask n (cG mask i pe) q/\q.j=j:=by
 intro fuel
 induction fuel with
 | zero=>intro i pe j hi h;unfold SetTable.layClean.free at h;cases h
 | succ fuel ih =>
  intro i pe j hi h
  unfold SetTable.layClean.free at h
  obtain ⟨r1,r2⟩:=kh hi
  have no:∀k,k<runEnd mask i+1-i->((owner.getD (i+k) (some 0)).isNone=false)->ocw owner (i+k):=λk hk e=>by
   by_cases o:ocw owner (i+k)
   ·exact o
   ·rw[(e7 hs (by lia)).mpr o] at e;cases e
  cases hf:(yj (runEnd mask i+1-i)).find? λk=>(owner.getD (i+k) (some 0)).isNone with
  | some k =>
   rw[hf] at h
   dsimp only at h
   cases h
   rw[List.find?_range_eq_some] at hf
   obtain ⟨f1,f2,f3⟩:=hf
   rw[yf] at f2
   refine ⟨(e7 hs (by lia)).mp f1,k,_,kR (ocw owner) mask k (cG mask i pe) (by show k<=runEnd mask i-i;lia) λk' hk =>?_,rfl⟩
   refine no k' (by lia) ?_
   have:=f3 k' hk
   simpa using this
  | none =>
   rw[hf] at h
   dsimp only at h
   rw[B6] at hf
   have all:∀k,k<runEnd mask i+1-i->ocw owner (i+k):=λk hk=>no k hk (by simpa using hf k hk)
   obtain ⟨g1,n,q,w,eq⟩:=ih _ _ _ (Aw (Bo _ (AL mask))) h
   refine ⟨g1,?_⟩
   have w0:=kR (ocw owner) mask (runEnd mask i-i) (cG mask i pe) (xg _) λk' hk=>all k' (by lia)
   have w1:Way (ocw owner) mask (n+1) { (cG mask i pe) with j:=(cG mask i pe).j+(runEnd mask i-i),more:=(cG mask i pe).more-(runEnd mask i-i) } q:=by
    refine .step (all (runEnd mask i-i) (by lia)) ?_
    have e:adv mask { (cG mask i pe) with j:=(cG mask i pe).j+(runEnd mask i-i),more:=(cG mask i pe).more-(runEnd mask i-i) }=cG mask (leap mask i pe).1 (leap mask i pe).2:=by
     unfold adv
     rw[if_neg (by show ¬ (runEnd mask i-i-(runEnd mask i-i))>0;lia)]
     rfl
    rw[e]
    exact w
   obtain ⟨k,w2⟩:=w0.trans w1
   exact ⟨k,q,w2,eq⟩
theorem qe {mask:Nat}{owner:Array (Option Nat)}(hs:owner.size=mask+1):∀(fuel i pe k:Nat),i<=mask->k<fuel->¬ ocw owner (cn mask k (i,pe)).1->∃j,SetTable.layClean.free mask owner fuel i pe=some j:=by
 intro fuel
 induction fuel with
 | zero=>intro i pe k _ h;lia
 | succ fuel ih =>
  intro i pe k hi hk he
  unfold SetTable.layClean.free
  obtain ⟨r1,r2⟩:=kh hi
  cases hf:(yj (runEnd mask i+1-i)).find? λk=>(owner.getD (i+k) (some 0)).isNone with
  | some k=>exact ⟨_,rfl⟩
  | none =>
   dsimp only
   rw[B6] at hf
   cases k with
   | zero =>
    have h0:=hf 0 (by lia)
    have:(owner.getD (i+0) (some 0)).isNone=true:=(e7 hs (by lia)).mpr he
    rw[this] at h0
    cases h0
   | succ k=>exact ih _ _ k (Aw (Bo _ (AL mask))) (by lia) he
structure Own (mask:Nat)(owner:Array (Option Nat))(hs:List Int):Prop where
 size:owner.size=mask+1
 cov:∀(k:Nat) (h:Int),hs[k]? = some h->∃j n q,owner[j]? = some (some k)/\Way (ocw owner) mask n (start mask h) q/\q.j=j
 bnd:∀j k:Nat,owner[j]? = some (some k)->k<hs.length
 inj:∀i j k:Nat,owner[i]? = some (some k)->owner[j]? = some (some k)->i=j
theorem Own.step {mask:Nat}(hm:Msk mask){owner:Array (Option Nat)}{hs:List Int}(O:Own mask owner hs)(h:Int)(hl:hs.length<=mask) :
  ∃j,SetTable.layClean.free mask owner (turns mask) (bits h%(mask+1)) (bits h)=some j/\Own mask (owner.setIfInBounds j (some hs.length)) (hs++[h]):=by
 obtain ⟨e,he,hne⟩:=kg (mask:=mask) (n:=hs.length) (ocw owner) (λj=>(owner.getD j none).getD 0)
  (λj _ ⟨k,ek⟩=>by
   have:=fC ek
   show (owner.getD j none).getD 0<_
   rw[show owner.getD j none=some k by rw[zh,ek];rfl]
   exact O.bnd j k ek)
  (λi j _ _ ⟨a,ea⟩ ⟨b,eb⟩ q=>by
   have q':(owner.getD i none).getD 0=(owner.getD j none).getD 0:=q
   rw[show owner.getD i none=some a by rw[zh,ea];rfl,show owner.getD j none=some b by rw[zh,eb];rfl] at q'
   have q'':a=b:=q'
   subst q''
   exact O.inj i j a ea eb) hl
 have i0:bits h%(mask+1)<=mask:=Aw (Bo _ (AL mask))
 obtain ⟨k,k1,k2⟩:=i3 hm (h:=h) he
 obtain ⟨j,hj⟩:=qe O.size (turns mask) _ _ k i0 k1 (by rw[k2];exact hne)
 obtain ⟨hno,n,q,w,eq⟩:=qd O.size _ _ _ _ i0 hj
 have hjm:j<=mask:=by rw[<- eq];exact w.le (lZ mask h)
 have hjs:j<owner.size:=by rw[O.size];lia
 have ej:owner[j]? = some none:=by
  rw[yw hjs]
  cases ho:owner[j] with
  | none=>rfl
  | some k=>exact absurd ⟨k,by rw[yw hjs,ho]⟩ hno
 have get:∀i:Nat,(owner.setIfInBounds j (some hs.length))[i]? = if i=j then some (some hs.length) else owner[i]? := λi=>by
  rw[Array.getElem?_setIfInBounds]
  by_cases q:j=i
  ·rw[if_pos q,if_pos q.symm,if_pos hjs]
  ·rw[if_neg q,if_neg (zA q)]
 have up:∀i,ocw owner i->ocw (owner.setIfInBounds j (some hs.length)) i:=by
  rintro i ⟨k,ek⟩
  refine ⟨k,?_⟩
  rw[get,if_neg (λq=>by rw[q,ej] at ek;cases ek)]
  exact ek
 refine ⟨j,hj,by rw[B5];exact O.size,λk h' eh =>?_,λi k ek =>?_,λi i' k ei ei' =>?_⟩
 ·by_cases lk:k<hs.length
  ·rw[zP lk] at eh
   obtain ⟨j',n',q',a,b,c⟩:=O.cov k h' eh
   refine ⟨j',n',q',?_,b.mono up,c⟩
   rw[get,if_neg (λq=>by rw[q,ej] at a;cases a)]
   exact a
  ·rw[zL (by lia)] at eh
   have:k-hs.length=0:=by
    cases hk:k-hs.length with
    | zero=>rfl
    | succ m=>rw[hk] at eh;cases eh
   rw[this] at eh
   cases eh
   obtain rfl:k=hs.length:=by lia
   exact ⟨j,n,q,by rw[get,if_pos rfl],w.mono up,eq⟩
 ·rw[w9,yv]
  rw[get] at ek
  split at ek
  ·cases ek;lia
  ·have:=O.bnd _ _ ek;lia
 ·rw[get] at ei ei'
  by_cases q1:i=j
  ·by_cases q2:i'=j
   ·rw[q1,q2]
   ·rw[if_pos q1] at ei;rw[if_neg q2] at ei'
    cases ei
    have:=O.bnd _ _ ei';lia
  ·rw[if_neg q1] at ei
   by_cases q2:i'=j
   ·rw[if_pos q2] at ei'
    cases ei'
    have:=O.bnd _ _ ei;lia
   ·rw[if_neg q2] at ei'
    exact O.inj _ _ _ ei ei'
theorem l9 {mask:Nat}(hm:Msk mask):∀(l:List Int) (owner:Array (Option Nat)) (hs:List Int),Own mask owner hs->hs.length+l.length<=mask+1 →
    ∃owner',l.foldl (λacc h=>do
      let (owner,k) ← acc
      let j ← SetTable.layClean.free mask owner (turns mask) (bits h%(mask+1)) (bits h)
      pure (owner.setIfInBounds j (some k),k+1)) (some (owner,hs.length))=some (owner',hs.length+l.length)/\Own mask owner' (hs++l)
  | [],owner,hs,O,_=>⟨owner,rfl,by rw[yu];exact O⟩
  | h :: l,owner,hs,O,hl=>by
    rw[xV] at hl
    obtain ⟨j,hj,O'⟩:=O.step hm h (by lia)
    obtain ⟨owner',e,O''⟩:=l9 hm l _ _ O' (by rw[w9,yv];lia)
    refine ⟨owner',?_,by rw[xU] at O'';exact O''⟩
    rw[Cz]
    have:(do
      let (owner,k) ← some (owner,hs.length)
      let j ← SetTable.layClean.free mask owner (turns mask) (bits h%(mask+1)) (bits h)
      pure (owner.setIfInBounds j (some k),k+1):Option (Array (Option Nat)×Nat))=some (owner.setIfInBounds j (some hs.length),(hs++[h]).length):=by
      show (SetTable.layClean.free mask owner (turns mask) (bits h%(mask+1)) (bits h)).bind _=_
      rw[hj,w9]
      rfl
    rw[this,e]
    rw[w9,yv,xV]
    congr 2
    lia
theorem ma {mask:Nat}(hm:Msk mask)(hs:Array Int)(hl:hs.size<=mask+1):∃owner,SetTable.layClean mask hs=some owner/\Own mask owner hs.toList:=by
  have O0:Own mask (Array.replicate (mask+1) none) []:=by
    refine ⟨by simp,λk h e=>by simp at e,λj k e =>?_,λi j k e =>?_⟩
    · rw[B7] at e;split at e <;> cases e
    · rw[B7] at e;split at e <;> cases e
  obtain ⟨owner,e,O⟩:=l9 hm hs.toList _ [] O0 (by rw[zV,xk];lia)
  refine ⟨owner,?_,by rw[AU] at O;exact O⟩
  unfold SetTable.layClean
  rw[<- Array.foldl_toList]
  have e':hs.toList.foldl (λacc h=>do
      let (owner,k) ← acc
      let j ← SetTable.layClean.free mask owner (turns mask) (bits h%(mask+1)) (bits h)
      pure (owner.setIfInBounds j (some k),k+1)) (some (Array.replicate (mask+1) none,0))=some (owner,0+hs.toList.length):=e
  rw[e']
  rfl
theorem filterMap_get {α β:Type}{f:α -> Option β}:∀(l:List α),(∀x∈l,(f x).isSome=true)->∀i:Nat,(l.filterMap f)[i]? = l[i]?.bind f
 | [],_,i=>by simp
 | x :: l,h,i=>by
  obtain ⟨y,hy⟩:=B4.mp (h x xN)
  rw[List.filterMap_cons_some hy]
  cases i with
  | zero=>simp[hy]
  | succ i =>
   rw[z9,z9]
   exact filterMap_get l (λz hz=>h z (xR _ hz)) i
theorem tU {mask:Nat}(hm:Msk mask)(finger moves:Nat)(led plain:Bool)(es:Array (Int×xb))(hl:es.size<=mask) :
  ∃t order,SetTable.laid mask finger moves led plain (es.map (·.1))=some (t,order)/\order.toList.Perm (yj es.size)/\Tab t ((order.filterMap (es[·]?)).map (·.1))/\(order.filterMap (es[·]?)).toList.Perm es.toList/\t.led=led/\t.plain=plain/\t.mask=mask:=by
 obtain ⟨owner,e,O⟩:=ma hm (es.map (·.1)) (by rw[yE];lia)
 refine ⟨_,_,by unfold SetTable.laid;rw[e];rfl,?_⟩
 generalize hlive:((yj (mask+1)).filterMap λj=>(owner.getD j none).map (j, ·))=live
 have mem:∀j k,(j,k)∈live↔owner[j]? = some (some k):=λj k=>by
  rw[<- hlive,BI]
  constructor
  ·rintro ⟨a,ha,ea⟩
   rw[zh] at ea
   cases ho:owner[a]? with
   | none=>rw[ho] at ea;cases ea
   | some x =>
    rw[ho] at ea
    cases x with
    | none=>cases ea
    | some k'=>cases ea;exact ho
  ·intro ho
   refine ⟨j,?_,?_⟩
   ·rw[yf, <- O.size];exact fC ho
   ·rw[zh,ho];rfl
 have pw:live.Pairwise (λa b=>a.1<b.1):=by
  rw[<- hlive,List.pairwise_filterMap]
  refine EC (λ{a b} hab x hx y hy =>?_) List.pairwise_lt_range
  have hx':x.1=a:=by cases ho:owner.getD a none with
   | none=>rw[ho] at hx;cases hx
   | some k=>rw[ho] at hx;cases hx;rfl
  have hy':y.1=b:=by cases ho:owner.getD b none with
   | none=>rw[ho] at hy;cases hy
   | some k=>rw[ho] at hy;cases hy;rfl
  rw[hx',hy'];exact hab
 have nd:(live.map (·.2)).Nodup:=by
  unfold List.Nodup
  rw[zq]
  refine AM (λ{a b} ha hb hab q =>?_) pw
  have:=O.inj a.1 b.1 a.2 ((mem _ _).mp ha) (by rw[q];exact (mem _ _).mp hb)
  lia
 have hlen:(es.map (·.1)).toList.length=es.size:=by rw[xk,yE]
 have perm:(live.map (·.2)).Perm (yj es.size):=by
  rw[BG nd DX]
  intro k
  rw[yf,yG]
  constructor
  ·rintro ⟨⟨j,k'⟩,hm',rfl⟩
   have:=O.bnd _ _ ((mem _ _).mp hm')
   rw[hlen] at this
   exact this
  ·intro hk
   obtain ⟨j,_,_,ej,_⟩:=O.cov k _ (xp (by rw[hlen];exact hk))
   exact ⟨(j,k),(mem _ _).mpr ej,rfl⟩
 have all:∀x∈live.map (·.2),(es[x]?).isSome=true:=λx hx=>by
  have:=(perm.mem_iff).mp hx
  rw[yf] at this
  rw[yw this];rfl
 have tl:(live.map (·.2)).toArray.toList=live.map (·.2):=rfl
 have ll:live.length=es.size:=by have:=perm.length_eq;rw[wW,y9] at this;exact this
 have fm:((live.map (·.2)).toArray.filterMap (es[·]?)).toList=(live.map (·.2)).filterMap (es[·]?):=by simp
 have fl:((live.map (·.2)).filterMap (es[·]?)).Perm es.toList:=by
  have p1:=perm.filterMap (es[·]?)
  have:(yj es.size).filterMap (es[·]?)=es.toList:=by
   apply DG
   intro i
   rw[filterMap_get _ (λx hx=>by rw[yf] at hx;rw[yw hx];rfl)]
   by_cases hi:i<es.size
   ·rw[List.getElem?_range hi,xy];rfl
   ·rw[CJ (by rw[y9];lia),CJ (by rw[xk];lia)];rfl
  rw[this] at p1
  exact p1
 refine ⟨perm,?_,by rw[fm];exact fl,rfl,rfl,rfl⟩
 have sz:(((live.map (·.2)).toArray.filterMap (es[·]?)).map (·.1)).size=es.size:=by
  rw[yE, <- xk,fm,fl.length_eq,xk]
 have occ_of:∀j,ocw owner j->occ { mask:=mask,place:=(live.map (·.1)).toArray,dummies := #[],finger:=finger,led:=led,moves:=moves,plain:=plain } j:=by
  rintro j ⟨k,ek⟩
  obtain ⟨i,hi,ei⟩:=Bv ((mem j k).mpr ek)
  refine ⟨i,?_⟩
  show (live.map (·.1)).toArray[i]? = some j
  rw[yi,xW,xp hi,ei]
  rfl
 refine ⟨rfl,λi j a b ea eb hij =>?_,?_,λi j ej =>?_,hm,by rw[sz];exact hl,λi j h ej eh =>?_⟩
 ·have ea':(live.map (·.1)).toArray[i]? = some a:=ea
  have eb':(live.map (·.1)).toArray[j]? = some b:=eb
  rw[yi] at ea' eb'
  have pw':(live.map (·.1)).Pairwise (· < ·):=by rw[zq];exact pw
  obtain ⟨hi,xi⟩:=xv.mp ea'
  obtain ⟨hj,xj⟩:=xv.mp eb'
  rw[<- xi, <- xj]
  exact Az.mp pw' i j hi hj hij
 ·show (live.map (·.1)).toArray.size=_
  rw[sz,xc,wW,ll]
 ·have ej':(live.map (·.1)).toArray[i]? = some j:=ej
  rw[yi,xW] at ej'
  cases hx:live[i]? with
  | none=>rw[hx] at ej';cases ej'
  | some x =>
   rw[hx] at ej'
   cases ej'
   have:=fC ((mem x.1 x.2).mp (xE hx))
   show x.1<=mask
   rw[O.size] at this
   lia
 ·have ej':(live.map (·.1)).toArray[i]? = some j:=ej
  rw[yi,xW] at ej'
  cases hx:live[i]? with
  | none=>rw[hx] at ej';cases ej'
  | some x =>
   rw[hx] at ej'
   cases ej'
   have ho:=(mem x.1 x.2).mp (xE hx)
   have hk:=O.bnd _ _ ho
   rw[Array.getElem?_map, <- xy,fm,filterMap_get _ all,xW,hx] at eh
   have eh':(es[x.2]?).map (·.1)=some h:=eh
   obtain ⟨j',n,q,a,b,c⟩:=O.cov x.2 h (by rw[Bh,xW,xy];exact eh')
   obtain rfl:=O.inj _ _ _ ho a
   exact ⟨n,q,b.mono occ_of,c⟩
open PySem PySem.SetTable PyProof.Rows
section
variable  {prog:xA}{w:xQ}{A:yh}{E:xb->xh->Prop}{s:xh}
def a7 (es:Array (Int×xb))(ep:Nat)(t:SetTable):Obj:={ cls :=.type "set",dict:=none,data :=.set es ep t }
theorem me {a:Addr}{es:Array (Int×xb)}{ep:Nat}{t:SetTable}{Q:(Array (Int×xb)×Nat×SetTable)->xh->Prop}(ho:s.heap.get? a=some (a7 es ep t))(T:Tab t (es.map (·.1)))(h:Q (es,ep,t) s) :
  xM (xT prog w) A (setState a) Q E s:=wpAny_setState_of ho rfl (by have:=T.fits;rwa [yE] at this) h
end
open PySem PySem.SetTable PyProof.Rows
section
variable  {prog:xA}{w:xQ}{A:yh}{E:xb->xh->Prop}{s:xh}
def eE (w:xQ)(h:Heap)(a:Addr)(es:Array (Int×xb)):Prop :=
 ∃ep t,h.get? a=some (a7 es ep t)/\Tab t (es.map (·.1))/\es.size*5<t.mask*3/\t.led = !w.params.followText "set-order" /\ t.plain=true
theorem eE.at {h h':Heap}{a:Addr}{es:Array (Int×xb)}(x:eE w h a es)(e:∀o,h.get? a=some o->h'.get? a=some o):eE w h' a es :=
 let ⟨ep,t,ho,r⟩:=x;⟨ep,t,e _ ho,r⟩
theorem rS {m n:Nat}(hm:Msk m)(h1:n*5<m*3)(h2:(n+1)*5≥m*3)(h3:n<300):Msk (sizeAbove (grown (n+1))-1)/\n+1<=sizeAbove (grown (n+1))-1/\(n+1)*5<(sizeAbove (grown (n+1))-1)*3/\sizeAbove (grown (n+1))<=512:=by
 have c:n=4\/n=18\/n=76:=by
  rcases hm with rfl | rfl | rfl | rfl <;> lia
 unfold Msk
 rcases c with rfl | rfl | rfl <;> decide
theorem qf:512<=xf:=by rw[D6];lia
theorem mf {a:Addr}{es es':Array (Int×xb)}{ep:Nat}{t t':SetTable}{Q:Unit->xh->Prop}(ho:s.heap.get? a=some (a7 es ep t))(hz:es'.size<=512)
  (h:∀h',Heap.SameBut a s.heap h'->h'.get? a=some (a7 es' (ep+1) t')->Q () { s with heap:=h' }):xM (xT prog w) A (storeSet a es' t') Q E s:=by
 refine wpAny_storeSet_of (o:=a7 es ep t) ho rfl ?_ (ye hz qf)
 refine h _ (AG s.heap a _) ?_
 have:=yF (Obj.putSet es' t') ho (by rw[putSet_of es' t' (o:=a7 es ep t) rfl];rfl)
 rw[putSet_of es' t' (o:=a7 es ep t) rfl] at this
 exact this
theorem Tab.tooFull {t:SetTable}{hs:Array Int}(T:Tab t hs):t.tooFull=decide (hs.size*5≥t.mask*3):=by
 unfold SetTable.tooFull;rw[T.fill]
theorem qg {t:SetTable}{es:Array (Int×xb)}(T:Tab t (es.map (·.1))){n:Nat}(hn:es.size=n+1)(h1:n*5<t.mask*3)(h2:(n+1)*5≥t.mask*3)(h3:n<300) :
  ∃t' order,t.relaid (es.map (·.1)) (grown (n+1))=some (t',order)/\order.toList.Perm (yj es.size)/\Tab t' ((order.filterMap (es[·]?)).map (·.1))/\(order.filterMap (es[·]?)).toList.Perm es.toList/\t'.led=t.led/\t'.plain=t.plain/\(n+1)*5<t'.mask*3:=by
 obtain ⟨k1,k2,k3,k4⟩:=rS T.msk h1 h2 h3
 obtain ⟨t',order,e,pm,T',pe,l,p,m⟩:=tU k1 t.finger (t.movedTo (sizeAbove (grown (n+1))-1)) t.led t.plain es (by lia)
 exact ⟨t',order,e,pm,T',pe,l,p,by rw[m];exact k3⟩
end
open PySem PySem.SetTable PyProof.Rows
section
variable  {prog:xA}{w:xQ}{A:yh}{E:xb->xh->Prop}{s:xh}
def ElI (e:Int×xb)(k:Int):Prop:=∃t,e=(hashInt k,yJ k t)
theorem qh {es:Array (Int×xb)}(els:∀e∈es,∃k,ElI e k):ElemsOf (intKind prog w) es.toList:=by
 intro e he
 obtain ⟨k,t,rfl⟩:=els e (x6.mp he)
 exact ⟨⟨k,CW _ _ _ _,rfl⟩,rfl⟩
theorem qi {t:SetTable}{es:Array (Int×xb)}(T:Tab t (es.map (·.1)))(h:Int)(x:xb){n:Nat}{q:Probe}(hn:n<10*turns t.mask)(W:Way (occ t) t.mask n (start t.mask h) q)(he:¬ occ t q.j)(hq:q.j<=t.mask)(hz:es.size+1<=t.mask) :
  layNew t es h x=(insertAt es (below t.place q.j) (h,x),{ t with place:=insertAt t.place (below t.place q.j) q.j },false,false):=by
 have hf:t.freeSlot h=some (q.j,false):=by
  unfold SetTable.freeSlot
  rcases rR T (H:=λ_=>h+1) (h:=h) W he hn rfl with ⟨g,_⟩ | ⟨_,_,i,_,_,_,h1,_⟩
  ·rw[show t.probe (λ_=>h+1) h (t.probeStart h)=some (.empty q.j none) from g]
   rfl
  ·have:h+1=h:=h1
   lia
 have T':=T.put W he hq (by rw[yE];exact hz)
 rw[<- gu es (below t.place q.j) (h,x) (·.1)] at T'
 have ft:=T'.fits
 rw[yE] at ft
 unfold layNew
 rw[hf]
 dsimp only
 rw[T.vE]
 dsimp only
 unfold SetTable.orStandIn
 rw[if_pos ft,ft]
 rfl
theorem mh {t:SetTable}{es:Array (Int×xb)}{n:Nat}{t':SetTable}{order:Array Nat}(e:t.relaid (es.map (·.1)) n=some (t',order))(pm:order.toList.Perm (yj es.size))(T':Tab t' ((order.filterMap (es[·]?)).map (·.1))) :
  relayAll t es n=(order.filterMap (es[·]?),t',false):=by
 unfold relayAll
 rw[e]
 dsimp only
 have c:coversAll order es.size=true:=by unfold coversAll;rw[List.isPerm_iff];exact pm
 have f:=T'.fits
 rw[yE] at f
 rw[c,f]
 rfl
theorem add_int {a:Addr}{es:Array (Int×xb)}{k:Int}{tok:Tok}{Q:Bool->xh->Prop}(I:eE w s.heap a es)(els:∀e∈es,∃k',ElI e k')(hz:es.size<300)
  (hin:(∃e∈es,ElI e k)->Q false s)
  (hnew:(¬ ∃e∈es,ElI e k)->∀h' es',Heap.SameBut a s.heap h'->eE w h' a es'->es'.toList.Perm ((hashInt k,.int k tok) :: es.toList)->Q true { s with heap:=h' }) :
  xM (xT prog w) A (setAddHashed a (.int k tok) (hashInt k)) Q E s:=by
 obtain ⟨ep,t,ho,T,rm,hl,hp⟩:=I
 have hel:=qh (prog:=prog) (w:=w) els
 have hb:es.size<scanBound:=by unfold scanBound;lia
 have hf:t.fits es.size=true:=by have:=T.fits;rwa [yE] at this
 unfold setAddHashed setAddHashedIn
 refine yL (wZ (me ho T ?_))
 dsimp only
 rw[byScan_of (knd:=intKind prog w) rfl hb hel]
 simp only[↓reduceIte]
 unfold setAddByScan
 refine wZ ?_
 refine wZ (Ay ?_)
 refine wZ (wpAny_setScan_of (knd:=intKind prog w) (k:=k) (CW _ _ _ _) ho rfl hf hel ?_)
 cases hr:List.findIdx? (λe=>(intKind prog w).is k e.2) es.toList with
 | some j =>
  dsimp only
  obtain ⟨hj,hpj,_⟩:=List.findIdx?_eq_some_iff_getElem.mp hr
  refine xn (xn (hin ⟨es.toList[j],x6.mp (zk hj),?_⟩))
  obtain ⟨k',t',e'⟩:=els es.toList[j] (x6.mp (zk hj))
  obtain ⟨u,e2⟩:=Dz hpj
  rw[e'] at e2
  cases e2
  exact ⟨_,e'⟩
 | none =>
  dsimp only
  have nx:¬ ∃e∈es,ElI e k:=by
   rintro ⟨e,he,t',rfl⟩
   have:=List.findIdx?_eq_none_iff.mp hr _ (x6.mpr he)
   rw[CW] at this
   cases this
  have hgw:∀(b:Bool) {s₁:xh} {Q':Unit->xh->Prop},Q' () s₁->xM (xT prog w) A (match b with | true=>rule "set.scan.the-table-gave-way" | false=>pure ()) Q' E s₁ :=
   λb s₁ Q' hq=>by cases b <;> first | exact xn hq | exact Ay hq
  obtain ⟨n,q,hn,W,he,hq,hd⟩:=T.ends (hashInt k)
  have hz':es.size+1<=t.mask:=by
   rcases T.msk with e | e | e | e <;> rw[e] at rm ⊢ <;> lia
  rw[qi T (hashInt k) (.int k tok) hn W he hq hz']
  dsimp only
  refine wZ (xn (a:=()) ?_)
  have T':=T.put W he hq (by rw[yE];exact hz')
  rw[<- gu es (below t.place q.j) (hashInt k,yJ k tok) (·.1),hp] at T'
  rw[hp]
  simp only[↓reduceIte]
  refine wZ ?_
  rw[show hashByValue 8 (.int k tok)=pure true from rfl]
  refine xn ?_
  simp only[↓reduceIte]
  have sz:(insertAt es (below t.place q.j) (hashInt k,yJ k tok)).size=es.size+1:=cF _ _ _
  refine wZ (mf ho (by rw[sz];lia) λh1 sb1 ho1 =>?_)
  have pm1:=insertAt_perm es (below t.place q.j) (hashInt k,yJ k tok)
  rw[T'.tooFull,yE,sz]
  by_cases full:(es.size+1)*5≥t.mask*3
  ·rw[if_pos (by simpa using full)]
   obtain ⟨t2,order,e2,pm2,T2,pe2,l2,p2,rm2⟩:=qg T' sz (n:=es.size) (by simpa using rm) full hz
   rw[mh e2 pm2 T2]
   dsimp only
   have z2:(order.filterMap ((insertAt es (below t.place q.j) (hashInt k,yJ k tok))[·]?)).size=es.size+1:=by
    rw[<- xk,pe2.length_eq,xk,sz]
   refine wZ (xn (a:=()) ?_)
   refine wZ (mf (s:={ s with heap:=h1 }) ho1 (by rw[z2];lia) λh2 sb2 ho2 =>?_)
   refine xn (xn (hnew nx h2 _ (sb1.trans sb2) ⟨_,_,ho2,T2,by rw[z2];exact rm2,by rw[l2];exact hl,by rw[p2]⟩ (pe2.trans pm1)))
  ·rw[if_neg (by simpa using full)]
   refine xn (xn (hnew nx h1 _ sb1 ⟨_,_,ho1,T',?_,hl,rfl⟩ pm1))
   rw[sz]
   exact AD full
end
open PySem PySem.SetTable PyProof.Rows PySem.Spec
def TS (h h':Heap):Prop:=∀b o,o.cls = .type "tuple" -> h.get? b=some o->h'.get? b=some o
structure Kd (prog:xA)(w:xQ)(κ:Type) where
 El:Heap->xb -> κ -> Prop
 hash:κ -> Int
 room:yh->Prop
 keeps:∀{h h':Heap} {v:xb} {k:κ},El h v k->TS h h'->El h' v k
 inj:∀{h:Heap} {v:xb} {k k':κ},El h v k->El h v k'->k=k'
 add:∀{A:yh} {E:xb->xh->Prop} {s:xh} {a:Addr} {es:Array (Int×xb)} {v:xb} {k:κ} {Q:Bool->xh->Prop},room A->eE w s.heap a es->(∀e∈es,∃k',e.1=hash k'/\El s.heap e.2 k')->El s.heap v k->es.size<300 →
  ((∃e∈es,El s.heap e.2 k)->∀tk,s.toks<=tk->Q false { s with toks:=tk }) →
  ((¬ ∃e∈es,El s.heap e.2 k)->∀h' es' tk,s.toks<=tk->Heap.SameBut a s.heap h'->eE w h' a es'->es'.toList.Perm ((hash k,v) :: es.toList)->Q true { s with heap:=h',toks:=tk }) →
  xM (xT prog w) A (setAdd a v) Q E s
def oM (prog:xA)(w:xQ):Kd prog w Int where
 El:=λ_ v k=>∃t,v = .int k t
 hash:=hashInt
 room:=λ_=>True
 keeps:=λx _=>x
 inj:=λ⟨t,e⟩ ⟨t',e'⟩=>by rw[e] at e';injection e'
 add:=by
  intro A E s a es v k Q _ I els hv hz hin hnew
  obtain ⟨t,rfl⟩:=hv
  unfold setAdd
  refine yL (wZ ((intKind prog w).pyHash (k:=k) (CW _ _ _ _) ?_))
  have els':∀e∈es,∃k',ElI e k':=λe he=>by
   obtain ⟨k',e1,t',e2⟩:=els e he
   exact ⟨k',t',Es e1 e2⟩
  have conv:∀e∈es,(ElI e k↔∃t,e.2=yJ k t):=λe he=>by
   constructor
   ·rintro ⟨t',rfl⟩;exact ⟨t',rfl⟩
   ·rintro ⟨t',e2⟩
    obtain ⟨k',e1,t2,e3⟩:=els e he
    rw[e2] at e3;injection e3 with e3 e4;subst e3
    exact ⟨t',Es e1 e2⟩
  refine add_int (s:={ s with toks:=s.toks+1 }) I els' hz (λx=>hin ?_ _ (Br _)) λx h' es' sb I' pm=>hnew ?_ h' es' _ (Br _) sb I' pm
  ·obtain ⟨e,he,x⟩:=x;exact ⟨e,he,(conv e he).mp x⟩
  ·rintro ⟨e,he,y⟩;exact x ⟨e,he,(conv e he).mpr y⟩
section
variable  {prog:xA}{w:xQ}{κ:Type}(kd:Kd prog w κ)
structure Good (h:Heap)(es:Array (Int×xb))(l:List κ):Prop where
 el:∀e∈es,∃k,k∈l/\e.1=kd.hash k/\kd.El h e.2 k
 all:∀k∈l,∃e∈es,kd.El h e.2 k
 dis:es.toList.Pairwise (λe e'=>∀k,kd.El h e.2 k->¬ kd.El h e'.2 k)
 len:es.size<=l.length
variable  {kd}
theorem Good.keeps {h h':Heap}{es:Array (Int×xb)}{l:List κ}(G:Good kd h es l)(t:TS h h'):Good kd h' es l:=by
 refine ⟨λe he =>?_,λk hk =>?_,?_,G.len⟩
 ·obtain ⟨k,a,b,c⟩:=G.el e he;exact ⟨k,a,b,kd.keeps c t⟩
 ·obtain ⟨e,a,b⟩:=G.all k hk;exact ⟨e,a,kd.keeps b t⟩
 ·refine AM (λ{e e'} he he' x k y z =>?_) G.dis
  obtain ⟨k1,_,_,c1⟩:=G.el e (x6.mp he)
  obtain ⟨k2,_,_,c2⟩:=G.el e' (x6.mp he')
  obtain rfl:=kd.inj y (kd.keeps c1 t)
  obtain rfl:=kd.inj z (kd.keeps c2 t)
  exact x _ c1 c2
theorem Good.nil (h:Heap):Good kd h #[] []:=⟨λe he=>(by simp at he),λk hk=>(by cases hk),(by simp),xg _⟩
theorem Good.same {h:Heap}{es:Array (Int×xb)}{l:List κ}(G:Good kd h es l){k:κ}(x:∃e∈es,kd.El h e.2 k):Good kd h es (l++[k]):=by
 refine ⟨λe he =>?_,λk' hk =>?_,G.dis,by rw[w9];have:=G.len;lia⟩
 ·obtain ⟨k,a,b⟩:=G.el e he;exact ⟨k,yQ _ a,b⟩
 ·rcases xx.mp hk with hk | hk
  ·exact G.all k' hk
  ·rw[xo] at hk;subst hk;exact x
theorem Good.more {h:Heap}{es es':Array (Int×xb)}{l:List κ}(G:Good kd h es l){k:κ}{v:xb}(hv:kd.El h v k)(x:¬ ∃e∈es,kd.El h e.2 k)(pm:es'.toList.Perm ((kd.hash k,v) :: es.toList)):Good kd h es' (l++[k]):=by
 have mem:∀e,e∈es'↔e=(kd.hash k,v)\/e∈es:=λe=>by
  rw[<- x6,pm.mem_iff,xK,x6]
 refine ⟨λe he =>?_,λk' hk =>?_,?_,?_⟩
 ·rcases (mem e).mp he with rfl | he
  ·exact ⟨k,xS _ (xo.mpr rfl),rfl,hv⟩
  ·obtain ⟨k,a,b⟩:=G.el e he;exact ⟨k,yQ _ a,b⟩
 ·rcases xx.mp hk with hk | hk
  ·obtain ⟨e,a,b⟩:=G.all k' hk;exact ⟨e,(mem e).mpr (.inr a),b⟩
  ·rw[xo] at hk;subst hk;exact ⟨_,(mem _).mpr (.inl rfl),hv⟩
 ·rw[pm.pairwise_iff (λ{a b} z k y1 y2=>z k y2 y1)]
  refine List.Pairwise.cons (λe he k' y1 y2 =>?_) G.dis
  obtain rfl:=kd.inj y1 hv
  exact x ⟨e,x6.mp he,y2⟩
 ·have:=pm.length_eq
  rw[xV,xk,xk] at this
  rw[w9,yv]
  have:=G.len
  lia
end
section
variable  {prog:xA}{w:xQ}{A:yh}{R:Result->xh->Prop}{I:Addr}{fp:List Addr}{G:Array GenState->Array GenState->Prop}{n:Nat}{P:Nat->xb->Prop}{St:Nat->xh->Prop}{κ:Type}{kd:Kd prog w κ}
theorem mj (W:WalksS prog w A.in1 I fp [I] G n P St)(hrm:kd.room A.in1)(hI:∀i s,St i s->∃o,s.heap.get? I=some o/\o.cls ≠ .type "tuple")(S:Addr)(hSf:S∉fp)(hIf:I∈fp)(ks:List κ)(hn:n=ks.length)(hb:n<300) :
  ∀(k i:Nat) (s:xh) (es:Array (Int×xb)),n-i=k->i<=n->St i s->(∀j v,P j v->∃q,ks[j]? = some q/\kd.El s.heap v q) →
   eE w s.heap S es->Good kd s.heap es (ks.take i) →
   (∀s' es',Moved [S,I] G s s'->eE w s'.heap S es'->Good kd s'.heap es' ks->R (.ok (.ret .none)) s') →
   Bl (xT prog w) A (.builtin "set.update.loop" ⟨[.ref S,.ref I],[]⟩) R s:=by
 have hSI:S≠I:=λe=>hSf (e ▸ hIf)
 have ts:∀i s s',St i s->Moved [I] G s s'->TS s.heap s'.heap:=λi s s' hst hm b o hc e=>by
  refine hm.heap b o (λhb =>?_) e
  rw[xo] at hb
  obtain ⟨o',e',c'⟩:=hI i s hst
  rw[hb,e'] at e;cases e;exact c' hc
 intro k
 induction k with
 | zero =>
  intro i s es hk hi hst hv hS hG hR
  have hin:i=n:=by omega
  subst hin
  refine yp Cd ?_
  rw[ym Aa _]
  show xM _ A.in1 (pyNext (.ref I) >>= _) _ _ s
  refine wZ (W.done s _ _ hst λs' hm =>?_)
  show xM _ A.in1 (ret zc) _ _ s'
  rw[yq (by omega)] at hG
  exact xn (hR s' es (hm.mono λb hb=>by rw[xo] at hb;simp[hb]) (hS.at λo e=>hm.heap S o (by rw[xo];exact hSI) e) (hG.keeps (ts _ _ _ hst hm)))
 | succ k ih =>
  intro i s es hk hi hst hv hS hG hR
  have hlt:i<n:=by omega
  refine yp Cd ?_
  rw[ym Aa _]
  show xM _ A.in1 (pyNext (.ref I) >>= _) _ _ s
  refine wZ (W.item i s _ _ hlt hst λv s' hP hst' hm =>?_)
  have t0:=ts _ _ _ hst hm
  obtain ⟨q,eq,hq⟩:=hv i v hP
  have hS':eE w s'.heap S es:=hS.at λo e=>hm.heap S o (by rw[xo];exact hSI) e
  have hG':=hG.keeps t0
  have tk:ks.take (i+1)=ks.take i++[q]:=by rw[List.take_succ,eq];rfl
  show xM _ A.in1 (DK [v] (setAdd S v) >>= _) _ _ s'
  have hm2:Moved [S,I] G s s':=hm.mono λb hb=>by rw[xo] at hb;simp[hb]
  refine wZ (yL (kd.add hrm hS' (λe he =>?_) (kd.keeps hq t0) ?_ (λx tk' htk =>?_) λx h' es' tk' htk sb I' pm =>?_))
  ·obtain ⟨k',_,a,b⟩:=hG'.el e he;exact ⟨k',a,b⟩
  ·have:=hG'.len;rw[yy] at this;omega
  ·refine xn ⟨zw Aa _,ih (i+1) _ es (by omega) hlt (W.frame _ s' _ _ hst' htk λb _ o e=>e) (λj v' p =>?_) hS' (by rw[tk];exact hG'.same x) λs'' es'' hm'' a b =>?_⟩
   ·obtain ⟨q',a,b⟩:=hv j v' p;exact ⟨q',a,kd.keeps b t0⟩
   ·exact hR s'' es'' (EA W.gtrans (hm2.then_heap htk λb o _ e=>e) hm'') a b
  ·have t1:TS s'.heap h':=λb o hc e=>by
    rw[sb.2 b (λhb=>by
     obtain ⟨ep,t,ho,_⟩:=hS'
     rw[hb,ho] at e;cases e;simp[a7] at hc)]
    exact e
   refine xn ⟨zw Aa _,ih (i+1) _ es' (by omega) hlt (W.frame _ s' _ _ hst' htk λb hb o e =>?_) (λj v' p =>?_) I' (by rw[tk];exact (hG'.more (kd.keeps hq t0) x pm).keeps t1) λs'' es'' hm'' a b =>?_⟩
   ·rw[sb.2 b (λh:b=S=>hSf (h ▸ hb))];exact e
   ·obtain ⟨q',a,b⟩:=hv j v' p;exact ⟨q',a,kd.keeps (kd.keeps b t0) t1⟩
   ·refine hR s'' es'' (EA W.gtrans (hm2.then_heap htk λb o hb e =>?_) hm'') a b
    rw[sb.2 b (λh:b=S=>hb (by rw[h];exact xN))];exact e
end
section
variable  {prog:xA}{w:xQ}{A:yh}{E:xb->xh->Prop}{s:xh}
theorem oN (a:xb){Q₁:xb->xh->Prop}
    (h:Q₁ (.ref s.heap.objs.size) { s with heap:=s.heap.push (a7 #[] 0 (.fresh 0 0 (!w.params.followText "set-order"))) }) :
    Bl (xT prog w) A (.call (.builtin "set.__new__") ⟨[.type "set",a],[]⟩) (wants Q₁ E) s:=by
  refine CS ?_
  show xM _ A.in1 (do checkBuiltinCall "set.__new__" ⟨[.type "set",a],[]⟩;again (.builtin "set.__new__" ⟨[.type "set",a],[]⟩)) _ _ s
  refine wZ (D8 (PySem.F.newCall_set_1 a) (xn ⟨zw D3 _,yp F.entry_set_new ?_⟩))
  rw[ym D3 _]
  unfold Builtin.«set.__new__» Builtin.Frozenset.newClass
  have hsub:=sub_set_self
  obtain ⟨hp,g,d,tk,os⟩:=s
  dsimp only
  wp_walk
  refine wpAny_askSetting (xn ?_)
  dsimp only
  simp only[newObj]
  refine wZ (wpAny_alloc (xn ?_))
  exact xn h
theorem qj (led:Bool):Tab (.fresh 0 0 led) #[]:=by
 refine ⟨rfl,λi j a b e =>?_,rfl,λi j e =>?_,.inl rfl,yk _,λi j h e =>?_⟩ <;> (simp[SetTable.fresh] at e)
theorem i4 {h:Heap}{a:Addr}(ho:h.get? a=some (a7 #[] 0 (.fresh 0 0 (!w.params.followText "set-order")))):eE w h a #[] :=
 ⟨0,_,ho,(by rw[Array.map_empty];exact qj _),(by show 0*5<7*3;decide),rfl,rfl⟩
theorem sub_tuple_set:isSubtype (.type "tuple") (.type "set")=pure false:=by rw[B2];kernel_rfl
theorem sub_tuple_frozenset:isSubtype (.type "tuple") (.type "frozenset")=pure false:=by rw[B2];kernel_rfl
end
open PySem PySem.SetTable PyProof.Rows PySem.Spec
section
variable  {prog:xA}{w:xQ}{A:yh}{E:xb->xh->Prop}{s:xh}
set_option maxHeartbeats 3200000 in
theorem i8 {κ:Type}{kd:Kd prog w κ}{l:Addr}{items:Array xb}{ks:List κ}{Q:xb->xh->Prop}
  (hh:A.handled=none) (hrm:kd.room A.in1.in1.in1) (hl:s.heap.IsTuple l items) (hz:items.size=ks.length) (hi:∀(i:Nat) v,items[i]? = some v->∃q,ks[i]? = some q/\kd.El s.heap v q) (hb:items.size<300)
  (h:∀(h':Heap) (es:Array (Int×xb)) (tk:Nat),s.toks<=tk->eE w h' s.heap.objs.size es->Good kd h' es ks →
   (∀b o,s.heap.get? b=some o->h'.get? b=some o)->Q (.ref s.heap.objs.size) { s with heap:=h',toks:=tk }) :
  xM (xT prog w) A (call (.type "set") [.ref l]) Q E s:=by
 obtain ⟨c,tl,hmro⟩:=yT.mro
 have hmade:=yT.made
 have hsub:=yT.sub
 refine Em (CS ?_)
 show xM _ _ (callAny (.type "set") _) _ _ _
 refine xn ⟨BJ _ (by decide +kernel),yp DH ?_⟩
 rw[Ds (CT "set" [.ref l] []) rfl]
 have h1:=yT.notType
 have h2:=yT.canCreate
 have hct:=Ct (.ref l)
 repeat (any_goals (first | assumption | wp_step))
 have gd:(s.heap.push (a7 #[] 0 (.fresh 0 0 (!w.params.followText "set-order")))).objs.size=s.heap.objs.size+1:=zG _ _
 refine AQ (oN (w:=w) (.ref l) (E:=E) (Q₁:=λobj s₁=>obj = .ref s.heap.objs.size/\s₁={ s with heap:=s.heap.push (a7 #[] 0 (.fresh 0 0 (!w.params.followText "set-order"))) }) ⟨rfl,rfl⟩) λr s₁ hr =>?_
 cases r with
 | error e=>exact hr
 | ok fl =>
  cases fl with
  | ret obj =>
   obtain ⟨rfl,rfl⟩:=hr
   generalize hled:(!w.params.followText "set-order")=led at gd ⊢
   have hS:(s.heap.push (a7 #[] 0 (.fresh 0 0 led))).get? s.heap.objs.size=some (a7 #[] 0 (.fresh 0 0 led)):=xr _ rfl
   have hT:Shared.TypeIs { s with heap:=s.heap.push (a7 #[] 0 (.fresh 0 0 led)) } (.ref s.heap.objs.size) "set" :=⟨_,hS,rfl⟩
   have hli:=yT.init.lookup
   have hbi:=yT.init.bind (.ref s.heap.objs.size)
   repeat (any_goals (first | assumption | wp_step))
   refine AQ (C1 (R:=wants (λr s₂=>r = .none/\∃h' es tk,s₂={ s with heap:=h',toks:=tk }/\s.toks<=tk ∧
     eE w h' s.heap.objs.size es/\Good kd h' es ks ∧
     (∀b o,s.heap.get? b=some o->h'.get? b=some o)) E) yT.init.plain DY (check_set_init_1 hT ?_)) λr₂ s₂ hr₂ =>?_
   ·obtain ⟨ol,hol,hcl,nl,hdl⟩:=id hl
    obtain ⟨ocls,odict,odata,oslots⟩:=ol
    simp only at hcl hdl
    subst hcl;subst hdl
    have hol':(s.heap.push (a7 #[] 0 (.fresh 0 0 led))).get? l=some { cls :=.type "tuple",dict:=odict,data :=.seq items nl,slots:=oslots }:=wX _ hol
    have hsls:=sub_tuple_set
    have hslf:=sub_tuple_frozenset
    have hne:(Bp "tuple" == Bp "dict")=false:=by decide
    have hl1:(s.heap.push (a7 #[] 0 (.fresh 0 0 led))).IsTuple l items:=⟨_,hol',rfl,nl,rfl⟩
    unfold Builtin.«set.__init__» noKeywords Builtin.Frozenset.updateFrom
    generalize hPI:pyIter=PI
    wp_walk
    subst hPI
    refine zi hl1 ?_
    refine wZ (Bb ?_)
    have hlS:l<s.heap.objs.size:=xt hol
    have hh3:A.in1.in1.in1.handled=none:=by simp[hh]
    have hneI:l≠(s.heap.push (a7 #[] 0 (.fresh 0 0 led))).objs.size:=by
     rw[gd];exact xF (yB hlS)
    have hSf:s.heap.objs.size∉[(s.heap.push (a7 #[] 0 (.fresh 0 0 led))).objs.size,l]:=by
     rw[gd];simp only[xK,xo,Bi,or_false,not_or]
     exact ⟨xF (y6 _),zO hlS⟩
    refine mj (kd:=kd) ((C8 hh3 _ l hneI items).toS) hrm (λi s' st =>?hI) s.heap.objs.size hSf xN ks hz hb (items.size-0) 0 _ #[] (by lia) (yk _)
     ⟨⟨_,xr _ rfl,rfl,rfl⟩,(hl1.push _)⟩ ?hv (by subst hled;exact i4 (wX _ hS)) (Good.nil _) ?hR
    case hI =>
     obtain ⟨o,ho,hc,_⟩:=st.1
     exact ⟨o,ho,by rw[hc];decide⟩
    case hv =>
     intro j v hv
     obtain ⟨q,e,x⟩:=hi j v hv
     exact ⟨q,e,kd.keeps x λb o _ e=>wX _ (wX _ e)⟩
    case hR =>
     intro s' es' hm hS' hG'
     obtain ⟨h',g',d',tk',os'⟩:=s'
     have eg:g'=s.gens:=hm.gens
     have ed:d'=s.drawn:=hm.drawn
     have eo:os'=s.os:=hm.os
     subst eg;subst ed;subst eo
     show xM _ _ _ _ _ _
     refine xn ?_
     show xM _ _ (ret zc) _ _ _
     refine xn ⟨rfl,h',es',tk',rfl,hm.toks,hS',hG',λb o e =>?_⟩
     have hbb:=xt e
     have hb1:b≠s.heap.objs.size:=xF hbb
     have hb2:b≠(s.heap.push (a7 #[] 0 (.fresh 0 0 led))).objs.size:=by
      rw[gd];exact xF (yB hbb)
     exact hm.heap b o (by simp only[xK,xo,Bi,or_false,not_or];exact ⟨hb1,hb2⟩) (wX _ (wX _ e))
   ·cases r₂ with
    | error e=>exact hr₂
    | ok fl₂ =>
     cases fl₂ with
     | ret r =>
      obtain ⟨rfl,h',es,tk,rfl,htk,hS',hG',hk'⟩:=hr₂
      repeat (any_goals (first | assumption | wp_step))
      exact h _ _ _ htk hS' hG' hk'
     | _=>exact hr₂.elim
  | _=>exact hr.elim
end
open PySem PySem.SetTable PyProof.Rows PySem.Spec
section
variable  {prog:xA}{w:xQ}{A:yh}{E:xb->xh->Prop}{s:xh}
set_option maxHeartbeats 3200000 in
theorem call_set_list {κ:Type}{kd:Kd prog w κ}{l:Addr}{items:Array xb}{ks:List κ}{Q:xb->xh->Prop}
  (hh:A.handled=none) (hrm:kd.room A.in1.in1.in1) (hl:s.heap.IsList l items) (hz:items.size=ks.length) (hi:∀(i:Nat) v,items[i]? = some v->∃q,ks[i]? = some q/\kd.El s.heap v q) (hb:items.size<300)
  (h:∀(h':Heap) (es:Array (Int×xb)) (tk:Nat),s.toks<=tk->eE w h' s.heap.objs.size es->Good kd h' es ks →
   (∀b o,s.heap.get? b=some o->h'.get? b=some o)->Q (.ref s.heap.objs.size) { s with heap:=h',toks:=tk }) :
  xM (xT prog w) A (call (.type "set") [.ref l]) Q E s:=by
 obtain ⟨c,tl,hmro⟩:=yT.mro
 have hmade:=yT.made
 have hsub:=yT.sub
 refine Em (CS ?_)
 show xM _ _ (callAny (.type "set") _) _ _ _
 refine xn ⟨BJ _ (by decide +kernel),yp DH ?_⟩
 rw[Ds (CT "set" [.ref l] []) rfl]
 have h1:=yT.notType
 have h2:=yT.canCreate
 have hct:=Ct (.ref l)
 repeat (any_goals (first | assumption | wp_step))
 have gd:(s.heap.push (a7 #[] 0 (.fresh 0 0 (!w.params.followText "set-order")))).objs.size=s.heap.objs.size+1:=zG _ _
 refine AQ (oN (w:=w) (.ref l) (E:=E) (Q₁:=λobj s₁=>obj = .ref s.heap.objs.size/\s₁={ s with heap:=s.heap.push (a7 #[] 0 (.fresh 0 0 (!w.params.followText "set-order"))) }) ⟨rfl,rfl⟩) λr s₁ hr =>?_
 cases r with
 | error e=>exact hr
 | ok fl =>
  cases fl with
  | ret obj =>
   obtain ⟨rfl,rfl⟩:=hr
   generalize hled:(!w.params.followText "set-order")=led at gd ⊢
   have hS:(s.heap.push (a7 #[] 0 (.fresh 0 0 led))).get? s.heap.objs.size=some (a7 #[] 0 (.fresh 0 0 led)):=xr _ rfl
   have hT:Shared.TypeIs { s with heap:=s.heap.push (a7 #[] 0 (.fresh 0 0 led)) } (.ref s.heap.objs.size) "set" :=⟨_,hS,rfl⟩
   have hli:=yT.init.lookup
   have hbi:=yT.init.bind (.ref s.heap.objs.size)
   repeat (any_goals (first | assumption | wp_step))
   refine AQ (C1 (R:=wants (λr s₂=>r = .none/\∃h' es tk,s₂={ s with heap:=h',toks:=tk }/\s.toks<=tk ∧
     eE w h' s.heap.objs.size es/\Good kd h' es ks ∧
     (∀b o,s.heap.get? b=some o->h'.get? b=some o)) E) yT.init.plain DY (check_set_init_1 hT ?_)) λr₂ s₂ hr₂ =>?_
   ·obtain ⟨ol,hol,hcl,nl,hdl⟩:=id hl
    obtain ⟨ocls,odict,odata,oslots⟩:=ol
    simp only at hcl hdl
    subst hcl;subst hdl
    have hol':(s.heap.push (a7 #[] 0 (.fresh 0 0 led))).get? l=some { cls :=.type "list",dict:=odict,data :=.seq items nl,slots:=oslots }:=wX _ hol
    have hsls:=PySem.F.sub_list_set
    have hslf:=PySem.F.sub_list_frozenset
    have hne:(Bp "list" == Bp "dict")=false:=by decide
    have hl1:(s.heap.push (a7 #[] 0 (.fresh 0 0 led))).IsList l items:=⟨_,hol',rfl,nl,rfl⟩
    unfold Builtin.«set.__init__» noKeywords Builtin.Frozenset.updateFrom
    generalize hPI:pyIter=PI
    wp_walk
    subst hPI
    refine Ax hl1 ?_
    refine wZ (Bb ?_)
    have hlS:l<s.heap.objs.size:=xt hol
    have hh3:A.in1.in1.in1.handled=none:=by simp[hh]
    have hneI:l≠(s.heap.push (a7 #[] 0 (.fresh 0 0 led))).objs.size:=by
     rw[gd];exact xF (yB hlS)
    have hSf:s.heap.objs.size∉[(s.heap.push (a7 #[] 0 (.fresh 0 0 led))).objs.size,l]:=by
     rw[gd];simp only[xK,xo,Bi,or_false,not_or]
     exact ⟨xF (y6 _),zO hlS⟩
    refine mj (kd:=kd) ((Ej hh3 _ l hneI items).toS) hrm (λi s' st =>?hI) s.heap.objs.size hSf xN ks hz hb (items.size-0) 0 _ #[] (by lia) (yk _)
     ⟨⟨_,xr _ rfl,rfl,rfl⟩,(hl1.push _)⟩ ?hv (by subst hled;exact i4 (wX _ hS)) (Good.nil _) ?hR
    case hI =>
     obtain ⟨o,ho,hc,_⟩:=st.1
     exact ⟨o,ho,by rw[hc];decide⟩
    case hv =>
     intro j v hv
     obtain ⟨q,e,x⟩:=hi j v hv
     exact ⟨q,e,kd.keeps x λb o _ e=>wX _ (wX _ e)⟩
    case hR =>
     intro s' es' hm hS' hG'
     obtain ⟨h',g',d',tk',os'⟩:=s'
     have eg:g'=s.gens:=hm.gens
     have ed:d'=s.drawn:=hm.drawn
     have eo:os'=s.os:=hm.os
     subst eg;subst ed;subst eo
     show xM _ _ _ _ _ _
     refine xn ?_
     show xM _ _ (ret zc) _ _ _
     refine xn ⟨rfl,h',es',tk',rfl,hm.toks,hS',hG',λb o e =>?_⟩
     have hbb:=xt e
     have hb1:b≠s.heap.objs.size:=xF hbb
     have hb2:b≠(s.heap.push (a7 #[] 0 (.fresh 0 0 led))).objs.size:=by
      rw[gd];exact xF (yB hbb)
     exact hm.heap b o (by simp only[xK,xo,Bi,or_false,not_or];exact ⟨hb1,hb2⟩) (wX _ (wX _ e))
   ·cases r₂ with
    | error e=>exact hr₂
    | ok fl₂ =>
     cases fl₂ with
     | ret r =>
      obtain ⟨rfl,h',es,tk,rfl,htk,hS',hG',hk'⟩:=hr₂
      repeat (any_goals (first | assumption | wp_step))
      exact h _ _ _ htk hS' hG' hk'
     | _=>exact hr₂.elim
  | _=>exact hr.elim
end
open PySem PySem.SetTable PyProof.Rows Srt
section
variable  {prog:xA}{w:xQ}{A:yh}{E:xb->xh->Prop}{s:xh}{O:BN}{key:xb->O.α}
end
end STab
namespace L2
open PySem PySem.Spec PyProof.Rows
section
variable  {X:Cx}
def jE (w:xQ)(a:Addr)(ys:List V):HO :=.ext λh=>∃es,STab.eE w h a es/\Vals ys (es.toList.map (·.2))
theorem tV {prog:xA}{w:xQ}{H:Hp}{h:Heap}{a:Addr}{ys:List V}{es:Array (Int×xb)}(I:STab.eE w h a es)(r:Vals ys (es.toList.map (·.2))):bo prog w (upd H a (jE w a ys)) h a (jE w a ys):=by
 refine ⟨⟨es,I,r⟩,?_,λh1 h2 ⟨es',I',r'⟩ k=>⟨es',I'.at k,r'⟩⟩
 obtain ⟨ep,t,ho,_⟩:=I
 exact ⟨_,ho⟩
theorem qk (hh:X.A.handled=none):bK X (.type "set") (λxs H Q=>∃(p:Addr) (ns:List Int),xs=[.ref p]/\(SqL X.K H p (ns.map V.int)\/SqT X.K H p (ns.map V.int))/\ns.length<300 ∧
  ∀(a:Addr) (us:List Int),H a=none->(∀k,k∈us↔k∈ns)->us.Nodup->us.length<=ns.length->Q (.ref a) (upd H a (jE X.w a (us.map V.int)))):=by
 intro pins s σ H xs vs Q I r h
 obtain ⟨p,ns,rfl,hs,hl,q⟩:=h
 obtain ⟨u,rfl,ru⟩:=vals1 r
 cases (show u=xB p from ru)
 have goal:∀(h':Heap) (es:Array (Int×xb)) (tk:Nat),s.toks<=tk->STab.eE X.w h' s.heap.objs.size es->STab.Good (STab.oM X.prog X.w) h' es ns →
   (∀b o,s.heap.get? b=some o->h'.get? b=some o)->EP X pins σ Q (.ref s.heap.objs.size) { s with heap:=h',toks:=tk }:=by
  intro h' es tk _ S G k
  have sh:∀v∈es.toList.map (·.2),∃k t,v=yJ k t:=λv hv=>by
   obtain ⟨e,he,rfl⟩:=yG.mp hv
   obtain ⟨k',_,_,t,e'⟩:=G.el e (x6.mp he)
   exact ⟨k',t,e'⟩
  have ru:=kN (j5 sh)
  have mem:∀k,k∈(es.toList.map (·.2)).map Srt.intOf↔k∈ns:=λk=>by
   constructor
   ·intro m
    obtain ⟨v,hv,rfl⟩:=yG.mp m
    obtain ⟨e,he,rfl⟩:=yG.mp hv
    obtain ⟨k',mk,_,t,e'⟩:=G.el e (x6.mp he)
    rw[e'];exact mk
   ·intro m
    obtain ⟨e,he,t,e'⟩:=G.all k m
    exact yG.mpr ⟨e.2,yG.mpr ⟨e,x6.mpr he,rfl⟩,by rw[e'];rfl⟩
  have nd:((es.toList.map (·.2)).map Srt.intOf).Nodup:=by
   unfold List.Nodup
   rw[zq,zq]
   refine G.dis.imp_of_mem λ{e e'} m m' x y =>?_
   obtain ⟨k1,_,_,t1,e1⟩:=G.el e (x6.mp m)
   obtain ⟨k2,_,_,t2,e2⟩:=G.el e' (x6.mp m')
   rw[e1,e2] at y
   have y':k1=k2:=y
   subst y'
   exact x k1 ⟨t1,e1⟩ ⟨t2,e2⟩
  refine ⟨.ref s.heap.objs.size,_,I.laid k (xg _) (tV S ru),rfl,q _ _ (I.hok.fresh (xg _)) mem nd (by rw[wW,wW,xk];exact G.len)⟩
 have itm:∀(its:List xb),Vals (ns.map V.int) its->∀(i:Nat) (v:xb),its.toArray[i]? = some v->∃q,ns[i]? = some q/\(STab.oM X.prog X.w).El s.heap v q:=by
  intro its rv i v hv
  have hI:=dW rv
  obtain ⟨t,e⟩:=IntsAre.int_at hI i v (by rw[yi] at hv;exact hv)
  have hlt:i<ns.length:=by
   have:=hI.length
   rw[yi] at hv
   have:=(xv.mp hv).1
   lia
  refine ⟨ns.getD i 0,?_,t,e⟩
  rw[xu,xp hlt]
  rfl
 rcases hs with hs | hs
 ·obtain ⟨its,rv,⟨o,n,e,c,dn,d⟩,z⟩:=I.list hs
  have lz:its.length=ns.length:=by have:=rv.length;rw[wW] at this;exact this.symm
  exact STab.call_set_list (kd:=STab.oM X.prog X.w) (items:=its.toArray) (ks:=ns) hh trivial ⟨o,e,c,n,d⟩ (by simp[lz]) (itm its rv) (by simpa [lz] using hl) goal
 ·obtain ⟨its,rv,⟨o,e,c,n,d⟩,z⟩:=I.tuple hs
  have lz:its.length=ns.length:=by have:=rv.length;rw[wW] at this;exact this.symm
  exact STab.i8 (kd:=STab.oM X.prog X.w) (items:=its.toArray) (ks:=ns) hh trivial ⟨o,e,c,n,d⟩ (by simp[lz]) (itm its rv) (by simpa [lz] using hl) goal
end
open PySem PySem.Spec PyProof.Rows
section
variable  {X:Cx}{w:xQ}
theorem i9 (hw:X.w=w)(hh:X.A.handled=none):bK X (.type "set") (λxs H Q=>∃(p:Addr) (ns:List Int),xs=[.ref p]/\(SqL X.K H p (ns.map V.int)\/SqT X.K H p (ns.map V.int))/\ns.length<300 ∧
  ∀(a:Addr) (us:List Int),H a=none->(∀k,k∈us↔k∈ns)->us.Nodup->us.length<=ns.length->Q (.ref a) (upd H a (jE w a (us.map V.int)))):=by
 subst hw
 exact qk hh
end
open PySem PySem.Spec PyProof.Rows
section
variable  {X:Cx}
theorem ki:∀{ns:List Int} {xs:List xb} {prog:xA} {w:xQ},A4 xs ns->ItemsAre (intKind prog w) ns xs
 | _,_,_,_,.nil =>.nil
 | _,_,_,_,.cons n t r =>.cons (CW _ _ _ _) (ki r)
theorem Inv.tkA {pins:List (Addr×Obj)}{σ:St}{H:Hp}{s:xh}(I:Inv X pins σ H s){b:Addr}{ns:List Int}(h:SqT X.K H b (ns.map V.int))(prog:xA)(w:xQ):IsTupleKey (intKind prog w) s.heap ns b:=by
 obtain ⟨its,r,⟨o,e,c,n,d⟩,_⟩:=I.tuple h
 exact ⟨o,_,n,e,c,d,ki (by simpa using intsAre_of r)⟩
theorem Inv.eqT {pins:List (Addr×Obj)}{σ:St}{H:Hp}{s:xh}(I:Inv X pins σ H s){A:yh}(hu:A.units<cLine){a b:Addr}{ns ms:List Int}(h1:SqT X.K H a (ns.map V.int))(h2:SqT X.K H b (ms.map V.int)):zZ A s (.ref a) (.ref b) (decide (ns=ms)) :=
 λprog w E Q q=>wpAny_eqBool_tuple hu (I.tkA h1 prog w) (I.tkA h2 prog w) q
theorem ja:∀{ps:List (Addr×List Int)} {us:List xb},Vals (ps.map λx=>V.ref x.1) us->us=ps.map λx=>xB x.1
 | [],_,r=>by cases r;rfl
 | p :: ps,_,r=>by
  cases r with
  | cons h t=>rw[xJ, <- ja t,show _=xB p.1 from h]
noncomputable def fR (ts:List (Addr×List Int))(m:List Int):xb->Bool:=λv=>decide (∃t∈ts,v = .ref t.1/\t.2=m)
theorem gX {pins:List (Addr×Obj)}{σ:St}{H:Hp}{s:xh}(I:Inv X pins σ H s){ts:List (Addr×List Int)}(ht:∀t∈ts,SqT X.K H t.1 (t.2.map V.int)){m:List Int}{t:Addr×List Int}(hm:t∈ts):fR ts m (.ref t.1)=decide (t.2=m):=by
 unfold fR
 by_cases e:t.2=m
 ·rw[decide_eq_true e,decide_eq_true ⟨t,hm,rfl,e⟩]
 ·rw[decide_eq_false e,decide_eq_false]
  rintro ⟨t',m',e1,e2⟩
  injection e1 with e1
  have:=I.gI (ht t hm) (by rw[e1];exact ht t' m')
  have inj:Function.Injective V.int:=λa b h=>by injection h
  have:t.2=t'.2:=(List.map_inj_right (λx y h=>inj h)).mp this
  exact e (this.trans e2)
theorem nC {pins:List (Addr×Obj)}{σ:St}{H:Hp}{s:xh}(I:Inv X pins σ H s){ts:List (Addr×List Int)}(ht:∀t∈ts,SqT X.K H t.1 (t.2.map V.int)){m:List Int}:∀us:List (Addr×List Int),(∀t∈us,t∈ts)->(us.map λt=>xB t.1).countP (fR ts m)=(us.map (·.2)).count m
 | [],_=>rfl
 | u :: us,h=>by
  rw[xJ,xJ,List.countP_cons,List.count_cons,nC I ht us (λt hm=>h t (xR _ hm)),gX I ht (h u xN)]
  by_cases e:u.2=m
  ·rw[decide_eq_true e,e];simp
  ·rw[decide_eq_false e];simp[e]
theorem oO {pins:List (Addr×Obj)}{σ:St}{H:Hp}{s:xh}(I:Inv X pins σ H s){ts:List (Addr×List Int)}(ht:∀t∈ts,SqT X.K H t.1 (t.2.map V.int)){m:List Int}:∀us:List (Addr×List Int),(∀t∈us,t∈ts)->(us.map λt=>xB t.1).any (fR ts m)=decide (m∈us.map (·.2))
 | [],_=>by simp
 | u :: us,h=>by
  rw[xJ,xJ,Ar,oO I ht us (λt hm=>h t (xR _ hm)),gX I ht (h u xN)]
  by_cases e:u.2=m
  ·rw[decide_eq_true e,e];simp
  ·rw[decide_eq_false e,Dt]
   have:(m∈u.2 :: us.map (·.2))↔m∈us.map (·.2):=by
    rw[xK]
    exact ⟨λh=>h.elim (λh=>absurd h.symm e) id,.inr⟩
   exact decide_eq_decide.mpr this.symm
theorem kS (hu:X.A.units+8<cLine):OpR X (yI .In) (λx y H Q=>∃(p b:Addr) (ts:List (Addr×List Int)) (m:List Int),x = .ref b/\y = .ref p/\H p=some (.tup (ts.map λt =>.ref t.1))/\(∀t∈ts,H t.1=some (.tup (t.2.map V.int)))/\H b=some (.tup (m.map V.int))/\Q (.bl (decide (m∈ts.map (·.2)))) H):=by
 intro pins s σ H x y v u Q I rx ry h
 obtain ⟨p,b,ts,m,rfl,rfl,hp,ht,hb,q⟩:=h
 cases rx
 cases ry
 have ht':∀t∈ts,SqT X.K H t.1 (t.2.map V.int):=λt hm=>SqT.of (ht t hm)
 obtain ⟨its,r,pl,hz⟩:=I.tuple (SqT.of (K:=X.K) hp)
 have ei:=ja r
 refine DS (fR ts m) pl (λy hy =>?_) ⟨.bl _,H,I,rfl,?_⟩
 ·have hy':y∈its:=by simpa using hy
  rw[ei] at hy'
  obtain ⟨t,hm,rfl⟩:=yG.mp hy'
  rw[gX I ht' hm]
  exact I.eqT (by show X.A.units+1<cLine;omega) (ht' t hm) (SqT.of hb)
 ·rw[show its.toArray.any (fR ts m)=its.any (fR ts m) by simp,ei,oO I ht' ts (λt h=>h)]
  exact q
theorem cp:∀{its:List xb} {ns:List Int},A4 its ns->∃xs:List (Int×Tok),its=xs.map (λp=>yJ p.1 p.2)/\xs.map (·.1)=ns
 | _,_,.nil=>⟨[],rfl,rfl⟩
 | _,_,.cons n t r=>by
  obtain ⟨xs,e1,e2⟩:=cp r
  exact ⟨(n,t) :: xs,by rw[xJ, <- e1],by rw[xJ,e2]⟩
theorem gv (hh:X.A.handled=none):bK X (.builtin "sum") (λxs H Q=>∃(p:Addr) (ns:List Int),xs=[.ref p]/\H p=some (.lst (ns.map V.int))/\Q (.int ns.sum) H):=by
 intro pins s σ H xs us Q I r h
 obtain ⟨p,ns,rfl,hp,q⟩:=h
 obtain ⟨u,rfl,ru⟩:=vals1 r
 cases (show u=xB p from ru)
 obtain ⟨z,its,n,r,e1⟩:=(show bo X.prog X.w H s.heap p (.lst _) from I.hok p _ hp)
 obtain ⟨zs,e2,e3⟩:=cp (intsAre_of r)
 have ei:its.toArray=zz zs.toArray:=by rw[e2];simp[zz]
 refine sum_intListG hh (xs:=zs.toArray) ⟨_,e1,rfl,n,by rw[ei]⟩ λh' tk t' k =>?_
 rw[preSum_eq,yq (by simp),e3]
 exact ⟨.int _,H,I.kept k,⟨_,rfl⟩,q⟩
end
end L2
namespace HT
open PySem PySem.Spec PyProof.Rows
section
variable  {prog:xA}{w:xQ}{A:yh}{E:xb->xh->Prop}{s:xh}
theorem fG {t sl:Addr}{items:Array xb}{vl vu:xb}{lo hi:Option Int}{Q:xb->xh->Prop}(ht:IsTup s.heap t items)(hs:s.heap.IsSliceOf sl vl vu .none)(pl:IsPart vl lo)(pu:IsPart vu hi)
  (hw:sIx items.size 0 lo=0/\sIx items.size items.size hi=items.size) (h:Q (.ref t) s):xM (xT prog w) A (getItem (.ref t) (.ref sl)) Q E s:=by
 obtain ⟨os,hos,hcs,hds⟩:=id hs
 have hTs:s.TypeIs (.ref sl) "slice" :=⟨os,hos,hcs⟩
 unfold getItem
 try with_reducible refine yL ?_
 first | refine wZ (xn ?_) | skip
 refine wZ (B8 ht.typeIs (by decide) ?_)
 refine wZ (yM (name:=Str.ofString "__getitem__") ht.typeIs yb
  (yr yb ht.typeIs entry_tuple_getitem ?_ (BM _ _)))
 show xM _ _ (Builtin.Tuple.tupleItemsOf (.ref t) >>= _) _ _ s
 refine wZ (Dx ht ?_)
 refine wZ (Aq hTs ?_)
 rw[if_pos (by decide)]
 refine wZ (dH hs pl pu ?_)
 show xM _ _ (if (((sIx items.size 0 lo:Nat):Int) == 0 && (1:Int) == 1 && (sIx items.size items.size hi-sIx items.size 0 lo) == items.size)=true then _ else _) _ _ s
 rw[hw.1,hw.2,if_pos (by simp)]
 unfold Builtin.Tuple.tupleIsExact
 refine wZ (wZ (Aq ht.typeIs (xn ?_)))
 rw[if_pos (by decide)]
 exact wZ (Ay (xn ⟨_,rfl,xn h⟩))
end
end HT
namespace L2
open PySem PySem.Spec PyProof.Rows
section
variable  {X:Cx}
theorem tW:SlR X (λx lo hi H Q=>∃a xs,x = .ref a/\SqT X.K H a xs/\((HT.sIx xs.length 0 lo=0/\HT.sIx xs.length xs.length hi=xs.length)->Q (.ref a) H) ∧
  (¬ (HT.sIx xs.length 0 lo=0/\HT.sIx xs.length xs.length hi=xs.length)->∀p,H p=none->Q (.ref p) (upd H p (.tup (bL xs lo hi))))):=by
 intro pins s σ H x v vl vu lo hi sl Q I rx hs pl pu h
 obtain ⟨a,xs,rfl,hx,q1,q2⟩:=h
 by_cases hw:HT.sIx xs.length 0 lo=0/\HT.sIx xs.length xs.length hi=xs.length
 ·cases rx
  obtain ⟨its,r,ht,hz⟩:=I.tuple hx
  have hlen:its.toArray.size=xs.length:=by rw[xc];exact r.length.symm
  refine ⟨"tuple",_,yb.lookup,ht.typeIs,?_⟩
  exact HT.fG ht hs pl pu (by rw[hlen];exact hw) ⟨.ref a,H,I,rfl,q1 hw⟩
 ·exact vf pins s σ H _ v vl vu lo hi sl Q I rx hs pl pu ⟨a,xs,rfl,hx,hw,q2 hw⟩
theorem ip:bK X (.type "range") (λxs H Q=>∃n:Int,xs=[.int n]/\∀a,H a=none->Q (.ref a) (upd H a (.rng 0 n))):=by
 intro pins s σ H xs us Q I r h
 obtain ⟨n,rfl,q⟩:=h
 obtain ⟨u,rfl,⟨t,rfl⟩⟩:=vals1 r
 refine call_range_1 ?_
 exact ⟨.ref s.heap.objs.size,_,I.laid (o :=.rng 0 n) (λb ob q=>wX _ q) (xg _) ⟨_,_,_,xr _ rfl⟩,rfl,q _ (I.hok.fresh (xg _))⟩
end
section
variable  {prog:xA}{w:xQ}{A:yh}{E:xb->xh->Prop}{s:xh}
theorem jF {R:List xb->xh->Prop}{r:Addr}{n:Nat}{t u v:Tok}(hh:A.handled=none)(hr:IsRange s.heap r 0 n 1 t u v)(hn:n<=2 ^ 24)
    (h:∀(h1:Heap) (tk:Nat) (vs:List xb),vs.length=n->(∀(i:Nat) (x:xb),vs[i]? = some x->∃t,x = .int i t)->(∀b o,s.heap.get? b=some o->h1.get? b=some o)->R vs { s with heap:=h1,toks:=tk }) :
    xM (xT prog w) A (collect (.ref r)) R E s:=by
  have hlt:r<s.heap.objs.size:=xt (show s.heap.get? r=some _ from hr)
  unfold collect
  refine wZ (Bb (yp Bw ?_))
  rw[ym Bx _]
  show xM _ A.in1 (newList [] >>= λl=>again (.builtin "list.__iadd__" ⟨[l,.ref r],[]⟩)) _ _ s
  refine wZ (yl ?_)
  refine xn ⟨zw Ab _,yp Ce ?_⟩
  rw[ym Ab _]
  show xM _ A.in1 (zj (.ref s.heap.objs.size) (.ref r) (.ref s.heap.objs.size)) _ _ { s with heap:=s.heap.push { cls :=.type "list",data :=.seq ([]:List xb).toArray } }
  have hr1:IsRange (s.heap.push { cls :=.type "list",data :=.seq ([]:List xb).toArray }) r 0 n 1 t u v:=wX _ hr
  have rs:Builtin.Range.rangeSize 0 (n:Int) 1=(n:Int):=by
    rw[rangeSize_one]
    split <;> lia
  have hlen24:n<=16777216:=hn
  have hS0:(s.heap.push { cls :=.type "list",data :=.seq ([]:List xb).toArray }).get? s.heap.objs.size=some { cls :=.type "list",data :=.seq #[] 0 }:=xr _ rfl
  refine wpAny_extend_range (A:=A) (R:=λres s'=>match res with
      | .ok (.ret v)=>xM (xT prog w) A (match v with | .ref a=>(do match (← load a).data with | .seq xs _=>pure xs.toList | _=>unsupported "internal:collect") | _=>unsupported "internal:collect") R E s'
      | .ok _=>False
      | .error e=>E e s') (s:={ s with heap:=s.heap.push { cls :=.type "list",data :=.seq ([]:List xb).toArray } }) hh hr1 (small_one (by lia) (by lia) (by lia) (by lia)) rs hn s.heap.objs.size (.ref s.heap.objs.size) 0 hS0 λh' tk acc' c' kk hS' hacc =>?_
  show xM _ A (load s.heap.objs.size >>= _) _ _ { s with heap:=h',toks:=tk }
  refine wZ (DJ hS' ?_)
  refine xn (h h' tk acc'.toList (by rw[xk];exact hacc.1) (λi x hx =>?_) λb o e=>kk b o (xF (xt e)) (wX _ e))
  rw[xy] at hx
  obtain ⟨t',e⟩:=hacc.2 i x hx
  exact ⟨t',by rw[e];simp⟩
theorem eF (r:Addr)(n:Nat)(t u v:Tok)(hn:n<=1000) :
  Meets (Builtin.«tuple.__new__» ⟨[.type "tuple",.ref r],[]⟩)
   (λA R s=>A.handled=none/\IsRange s.heap r 0 n 1 t u v/\∀(h':Heap) (tk:Nat) (vs:List xb),vs.length=n->(∀(i:Nat) (x:xb),vs[i]? = some x->∃t,x = .int i t)->(∀b o',s.heap.get? b=some o'->h'.get? b=some o')->R (.ok (.ret (.ref h'.objs.size))) { s with heap:=h'.push { cls :=.type "tuple",data :=.seq vs.toArray },toks:=tk }) :=
 .of_wp λprog w A R s h=>by
  obtain ⟨hp,g,d,tk,os⟩:=s;obtain ⟨hh,ht,h⟩:=h
  have hsub:=sub_tuple_self
  have hinit:=init_tuple_lookup
  have hmh:=madeHere_tuple
  have hT:Shared.TypeIs ⟨hp,g,d,tk,os⟩ (.ref r) "range" :=⟨_,ht,rfl⟩
  wp_walk using Aq hT,jF (by simpa using hh) ht (by lia)
  intro h' tk' vs lv hv hk
  show xM _ _ (Builtin.Tuple.tupleExact vs.toArray >>= λv=>ret v) _ _ _
  unfold Builtin.Tuple.tupleExact
  refine wZ (yl ?_ (by show vs.toArray.size<=xf;rw[xc,lv];exact small hn))
  exact xn ⟨_,rfl,h h' tk' vs lv hv hk⟩
end
section
variable  {X:Cx}
theorem nD:∀{vs:List xb},(∀(i:Nat) (x:xb),vs[i]? = some x->∃t,x=yJ i t)->Vals ((yj vs.length).map λi=>V.int (i:Nat)) vs:=by
 suffices h:∀(vs:List xb) (k:Nat),(∀(i:Nat) (x:xb),vs[i]? = some x->∃t,x=yJ ((i+k:Nat):Int) t)->Vals ((List.range' k vs.length).map λi=>V.int (i:Nat)) vs by
  intro vs hv
  have:=h vs 0 hv
  rw[List.range_eq_range']
  exact this
 intro vs
 induction vs with
 | nil=>intro k _;exact .nil
 | cons x vs ih =>
  intro k hv
  rw[xV,List.range'_succ,xJ]
  refine .cons ?_ (ih (k+1) λi y hy =>?_)
  ·obtain ⟨t,e⟩:=hv 0 x rfl
   exact ⟨t,by rw[e,z5]⟩
  ·obtain ⟨t,e⟩:=hv (i+1) y (by rw[z9];exact hy)
   exact ⟨t,by rw[e,show i+1+k=i+(k+1) by lia]⟩
theorem ml (hh:X.A.handled=none):bK X (.type "tuple") (λxs H Q=>∃(a:Addr) (n:Nat),xs=[.ref a]/\H a=some (.rng 0 n)/\n<=1000/\∀l,H l=none->Q (.ref l) (upd H l (.tup ((yj n).map λi=>V.int (i:Nat))))):=by
 intro pins s σ H xs us Q I r h
 obtain ⟨a,n,rfl,ha,hn,q⟩:=h
 obtain ⟨u,rfl,ru⟩:=vals1 r
 cases (show u=xB a from ru)
 obtain ⟨t,u,v,e⟩:=(show bo X.prog X.w H s.heap a (.rng 0 n) from I.hok a _ ha)
 refine callType_new PySem.F.called_tuple (by decide) (PySem.F.typeCall_tuple_1 _) (PySem.F.newCall_tuple_1 _) (λobj=>PySem.F.args_object_init_2 obj _) PySem.F.entry_tuple_new
  (eF a n t u v hn) ⟨by simpa using hh,e,λh' tk vs lv hv k=>⟨⟨_,xr _ rfl,rfl⟩,?_⟩⟩
 have I1:Inv X pins σ H { s with heap:=h',toks:=tk }:=I.kept k
 have rv:=nD hv
 rw[lv] at rv
 exact ⟨.ref h'.objs.size,_,I1.laid (o :=.tup ((yj n).map λi=>V.int (i:Nat))) (λb ob q=>wX _ q) (xg _) ⟨by rw[wW,y9];exact small hn,vs,rv,cV.new _ _⟩,rfl,q _ (I1.hok.fresh (xg _))⟩
end
open PySem PySem.Spec PyProof.Rows
section
variable  {κ:Type}[DecidableEq κ]
def nE (kvs:List (κ×V))(k:κ):Option V:=(kvs.find? λkv=>decide (kv.1=k)).map (·.2)
def putK (kvs:List (κ×V))(k:κ)(v:V):List (κ×V) :=
 if (kvs.any λkv=>decide (kv.1=k))=true then kvs.map (λkv=>if kv.1=k then (kv.1,v) else kv) else kvs++[(k,v)]
theorem mq {p:κ×V}{r:List (κ×V)}{k:κ}(e:p.1=k):nE (p :: r) k=some p.2:=by simp[nE,Bz,e]
theorem mv {p:κ×V}{r:List (κ×V)}{k:κ}(e:¬ p.1=k):nE (p :: r) k=nE r k:=by simp[nE,Bz,e]
theorem mw (k:κ):∀kvs:List (κ×V),(kvs.any λkv=>decide (kv.1=k))=(nE kvs k).isSome
 | []=>rfl
 | p :: r=>by
  rw[Ar]
  by_cases e:p.1=k
  ·simp only[mq e,decide_eq_true e,Bool.true_or,Option.isSome_some]
  ·rw[mv e,decide_eq_false e,Dt];exact mw k r
theorem iq (kvs:List (κ×V))(k:κ)(v:V):(putK kvs k v).length<=kvs.length+1:=by
 unfold putK
 split
 ·rw[wW];lia
 ·rw[w9,xV,zV];lia
theorem pJ.ql {o:Option V}{u:Option xb}(r:pJ o u):o.isSome=u.isSome:=by
 cases o with
 | none=>cases u with
  | none=>rfl
  | some _=>exact (show False from r).elim
 | some _=>cases u with
  | none=>exact (show False from r).elim
  | some _=>rfl
theorem KV.any {kvs:List (κ×V)}{vs:List (κ×xb)}(r:KV kvs vs)(k:κ):(kvs.any λkv=>decide (kv.1=k))=vs.any λkv=>decide (kv.1=k):=by
 unfold KV at r
 induction r with
 | nil=>rfl
 | cons h t ih=>rw[Ar,Ar,ih,h.1]
theorem KV.vF {kvs:List (κ×V)}{vs:List (κ×xb)}(r:KV kvs vs)(k:κ){y:V}{u:xb}(ry:RelV y u) :
  KV (kvs.map λkv=>if kv.1=k then (kv.1,y) else kv) (vs.map λkv=>if kv.1=k then (kv.1,u) else kv):=by
 unfold KV at r ⊢
 induction r with
 | nil=>exact .nil
 | @cons p q ps qs h t ih =>
  rw[xJ,xJ]
  refine .cons ?_ ih
  obtain ⟨h1,h2⟩:=h
  by_cases e:p.1=k
  ·rw[if_pos e,if_pos (h1.symm.trans e)];exact ⟨h1,ry⟩
  ·rw[if_neg e,if_neg (λz=>e (h1.trans z))];exact ⟨h1,h2⟩
theorem KV.put {kvs:List (κ×V)}{vs:List (κ×xb)}(r:KV kvs vs)(k:κ){y:V}{u:xb}(ry:RelV y u):KV (putK kvs k y) (stored vs k u):=by
 unfold putK stored
 rw[r.any k]
 by_cases e:(vs.any λkv=>decide (kv.1=k))=true
 ·rw[if_pos e,if_pos e];exact r.vF k ry
 ·rw[if_neg e,if_neg e];exact EB r ⟨rfl,ry⟩
theorem KV.length {kvs:List (κ×V)}{vs:List (κ×xb)}(r:KV kvs vs):kvs.length=vs.length:=zu r
end
theorem uK {P:xA}{w:xQ}{k:Key}{u:xb}(r:RelV (kV k) u):(bT P w).is k u=true:=by
 cases k with
 | inl i=>obtain ⟨t,e⟩:=(show ∃t,u=yJ i t from r);subst e;exact lF P w i t
 | inr x=>obtain ⟨t,e⟩:=(show ∃t,u=Value.str x t from r);subst e;exact lG P w x t
theorem kj {P:xA}{w:xQ}:∀{ks:List Key} {us:List xb},Vals (ks.map kV) us->ItemsAre (bT P w) ks us
 | [],_,r=>by rw[DL] at r;cases r;exact .nil
 | k :: ks,_,r=>by
  rw[xJ] at r
  cases r with
  | cons h t=>exact .cons (uK h) (kj t)
abbrev KT (H:Hp):List (List Key×V)->List (List Key×Addr×xb)->Prop:=Paired λp q=>p.1=q.1/\H q.2.1=some (.tup (p.1.map kV))/\RelV p.2 q.2.2
theorem KT.val {H:Hp}{kvs:List (List Key×V)}{xs:List (List Key×Addr×xb)}(r:KT H kvs xs)(k:List Key):pJ (nE kvs k) ((atKey xs k).map (·.2)):=by
 induction r with
 | nil=>exact True.intro
 | @cons p q ps qs h t ih =>
  obtain ⟨h1,_,h2⟩:=h
  by_cases e:p.1=k
  ·have e':q.1=k:=h1.symm.trans e
   have b:atKey (q :: qs) k=some q.2:=by simp[atKey,Bz,e']
   rw[mq e,b];exact h2
  ·have e':¬ q.1=k:=λz=>e (h1.trans z)
   have b:atKey (q :: qs) k=atKey qs k:=by simp[atKey,Bz,e']
   rw[mv e,b];exact ih
theorem KT.vF {H:Hp}{kvs:List (List Key×V)}{xs:List (List Key×Addr×xb)}(r:KT H kvs xs)(k:List Key){y:V}{u:xb}(ry:RelV y u) :
  KT H (kvs.map λkv=>if kv.1=k then (kv.1,y) else kv) (xs.map (putAt k u)):=by
 induction r with
 | nil=>exact .nil
 | @cons p q ps qs h t ih =>
  rw[xJ,xJ]
  refine .cons ?_ ih
  obtain ⟨h1,h2,h3⟩:=h
  unfold putAt
  by_cases e:p.1=k
  ·rw[if_pos e,if_pos (h1.symm.trans e)];exact ⟨h1,h2,ry⟩
  ·rw[if_neg e,if_neg (λz=>e (h1.trans z))];exact ⟨h1,h2,h3⟩
theorem KT.put {H:Hp}{kvs:List (List Key×V)}{xs:List (List Key×Addr×xb)}(r:KT H kvs xs)(k:List Key){b:Addr}{y:V}{u:xb}(hb:H b=some (.tup (k.map kV)))(ry:RelV y u) :
  KT H (putK kvs k y) (storedH xs k b u):=by
 have e:(kvs.any λkv=>decide (kv.1=k))=(atKey xs k).isSome:=by
  rw[mw,(r.val k).ql,Option.isSome_map]
 unfold putK storedH
 rw[e]
 by_cases q:(atKey xs k).isSome=true
 ·rw[if_pos q,if_pos q];exact r.vF k ry
 ·rw[if_neg q,if_neg q];exact EB r ⟨rfl,hb,ry⟩
theorem KT.keeps {H H':Hp}{kvs:List (List Key×V)}{xs:List (List Key×Addr×xb)}(r:KT H kvs xs)(ht:∀b ys,H b=some (.tup ys)->H' b=some (.tup ys)):KT H' kvs xs :=
 Paired.uU r λ_ _ z=>⟨z.1,ht _ _ z.2.1,z.2.2⟩
section
variable  {P:xA}{w:xQ}{H:Hp}{h:Heap}{a:Addr}
theorem uL {u:HO}(ok:HOk P w H h)(e:Rd H a u):bo P w H h a u:=e.ok ok
theorem wI {kvs:List (Key×V)}(ok:HOk P w H h)(e:Rd H a (.dK kvs)):kvs.length<=xf/\(a == sysModules)=false/\∃vs,KV kvs vs/\h.DictOf (bT P w) a vs :=
 show bo P w H h a (.dK kvs) from uL ok e
theorem wJ {kvs:List (Key×V)}(ok:HOk P w H h)(e:H a=some (.dK kvs)):kvs.length<=xf/\(a == sysModules)=false/\∃vs,KV kvs vs/\h.DictOf (bT P w) a vs:=wI ok (.inl e)
theorem rT {ks:List Key}(ok:HOk P w H h)(e:H a=some (.tup (ks.map kV))):(tupleKind (bT P w)).is h ks a:=by
 obtain ⟨_,its,r,o,h1,h2,n,h3⟩:=(show bo P w H h a (.tup (ks.map kV)) from ok a _ e)
 exact ⟨o,its.toArray,n,h1,h2.1,h3,by simpa using kj r⟩
theorem wK {kvs:List (List Key×V)}(ok:HOk P w H h)(e:Rd H a (.dT kvs)):kvs.length<=xf/\(a == sysModules)=false ∧
  ∃xs,KT H kvs xs/\h.DictOfH (tupleKind (bT P w)) a xs:=by
 obtain ⟨z,y,xs,r,o,es,ep,h1,h2,h3,h4,h5⟩:=(show bo P w H h a (.dT kvs) from uL ok e)
 refine ⟨z,y,xs,r,o,es,ep,h1,h2,h3,h4,λx hx =>?_,h5⟩
 have all:∀{l:List (List Key×V)} {m:List (List Key×Addr×xb)},KT H l m->∀x∈m,(tupleKind (bT P w)).is h x.1 x.2.1:=by
  intro l m q
  induction q with
  | nil=>intro x hx;exact nomatch hx
  | @cons p q ps qs hq t ih =>
   intro x hx
   rcases xK.mp hx with e | hx
   ·subst e
    exact rT ok (by rw[<- hq.1];exact hq.2.1)
   ·exact ih x hx
 exact all r x hx
theorem uM {kvs:List (List Key×V)}(ok:HOk P w H h)(e:H a=some (.dT kvs)):kvs.length<=xf/\(a == sysModules)=false ∧
  ∃xs,KT H kvs xs/\h.DictOfH (tupleKind (bT P w)) a xs:=wK ok (.inl e)
end
def wL (H:Hp)(a:Addr)(y v:V)(H':Hp):Prop :=
 (∃kvs k,H a=some (.dK kvs)/\y=kV k/\kvs.length<xf/\H'=upd H a (.dK (putK kvs k v))) ∨
 ∃kvs k b,H a=some (.dT kvs)/\y = .ref b/\H b=some (.tup (k.map kV))/\kvs.length<xf/\H'=upd H a (.dT (putK kvs k v))
section
variable  {X:Cx}{pins:List (Addr×Obj)}{σ:St}{H:Hp}{s:xh}{a:Addr}{y v:V}{u r:xb}{o:Option V}{A:yh}{E:xb->xh->Prop}
theorem Inv.big (I:Inv X pins σ H s):sysModules<s.heap.objs.size:=by
 have h:xZ<s.heap.objs.size:=(I.mod.glob.keeps I.bk).lt
 exact CH (by decide) h
theorem oP {h':Heap}{t':Nat}{ob:HO}(I:Inv X pins σ H s)(mu:Mut (H a))(hs:Heap.SameBut a s.heap h')(he:∃q,h'.get? a=some q)(new:bo X.prog X.w (upd H a ob) h' a ob) :
  Inv X pins σ (upd H a ob) { s with heap:=h',toks:=t' } :=
 I.write (x:=a) (e:=a) mu (.inl rfl) (λb q hb z=>(hs.2 b hb).trans z) he new
theorem vG {P:xA}{w:xQ}{H':Hp}{h':Heap}{kvs:List (Key×V)}{vs:List (Key×xb)}(z:kvs.length<=xf)(hd:(a == sysModules)=false)(rel:KV kvs vs)(dd:h'.DictOf (bT P w) a vs) :
  bo P w H' h' a (.dK kvs):=⟨z,hd,vs,rel,dd⟩
theorem qm {H':Hp}{Q:Unit->xh->Prop}(hu:A.units+1<cLine)(I:Inv X pins σ H s)(g:wL H a y v H')(ry:RelV y u)(rv:RelV v r)(h:∀s',Inv X pins σ H' s'->Q () s') :
  xM (xT X.prog X.w) A (setItem (.ref a) u r) Q E s:=by
 rcases g with ⟨kvs,k,e,ey,l,eH⟩ | ⟨kvs,k,b,e,ey,eb,l,eH⟩
 ·subst ey eH
  obtain ⟨z,hd,vs,rel,dd⟩:=wJ I.hok e
  have hz:vs.length<=xf:=by rw[<- rel.length];exact z
  have hl:(putK kvs k v).length<=xf:=by have:=iq kvs k v;lia
  refine wpAny_setItem_pairs (hsz:=hz) (uK ry) dd λh' dd' hs=>h _ ?_
  have he:∃q,h'.get? a=some q:=let ⟨q,_,_,hq,_⟩:=dd';⟨q,hq⟩
  exact oP I (by rw[e];exact True.intro) hs he (vG hl hd (rel.put k rv) dd')
 ·subst ey eH
  cases (show u=xB b from ry)
  obtain ⟨z,hd,xs,rel,dd⟩:=uM I.hok e
  have hz:xs.length<=xf:=by rw[<- zu rel];exact z
  have hl:(putK kvs k v).length<=xf:=by have:=iq kvs k v;lia
  refine wpAny_setItem_heap (hsz:=hz) (tupleKind_room_in1 hu) (rT I.hok eb) dd λh' dd' hs=>h _ ?_
  obtain ⟨q,es,ep,hq,h2,h3,h4,_,h5⟩:=dd'
  refine oP I (by rw[e];exact True.intro) hs ⟨q,hq⟩ ⟨hl,hd,_,(rel.put k eb rv).keeps λc ys ec =>?_,q,es,ep,hq,h2,h3,h4,h5⟩
  rw[aG (jR ec e (λz=>nomatch z))]
  exact ec
end
section
variable  {X:Cx}{pins:List (Addr×Obj)}{σ:St}{H:Hp}{s:xh}{a:Addr}{kvs:List (Key×V)}{k:Key}{u:xb}{A:yh}{E:xb->xh->Prop}
end
def wM (td ty tv:TE):TS:=λD σ H=>tv σ H λv H1=>td σ H1 λx H2=>ty σ H2 λy H3=>∃a H4,x = .ref a/\wL H3 a y v H4/\D.nx σ H4
section
variable  {X:Cx}{o i e value:Expr}{pos pos' tpos:Pos}{td ty tv:TE}
theorem tX (hu:X.A.units+1<cLine)(ho:PE X o td)(hi:PE X i ty)(hv:PE X value tv)(hs:swapsWith value (some (.Subscript o i pos')) pos.line X.env=pure false) :
  PS X (.Assign [.Subscript o i pos'] value pos) (wM td ty tv):=by
 intro pins s σ H D I h
 refine wpAny_Assign_Subscript (thn (hv pins s σ H _ I h) λr s1 ⟨v,H1,I1,rv,q1⟩=>thn (ho pins s1 σ H1 _ I1 q1) λu s2 ⟨x,H2,I2,rx,q2⟩=>thn (hi pins s2 σ H2 _ I2 q2) λiv s3 ⟨y,H3,I3,ry,a,H4,ex,g,q3⟩ =>?_) hs
 subst ex
 obtain rfl:u=xB a:=rx
 exact qm hu I3 g ry rv λs4 I4=>⟨σ,H4,I4,q3⟩
end
theorem rV {P:xA}{w:xQ}{H:Hp}(h:Heap)(hb:sysModules<h.objs.size):bo P w H (h.push { cls :=.type "dict",data :=.dict #[] }) h.objs.size (.dT []) :=
 ⟨yk _,beq_eq_false_iff_ne.mpr (zA (xF hb)),[],.nil,_, #[],0,xr _ rfl,⟨rfl,rfl,rfl⟩,rfl,rfl,Ee⟩
def vH:TE:=λ_ H Q=>∀p,H p=none->Q (.ref p) (upd H p (.dT []))
section
variable  {X:Cx}{pos:Pos}
theorem rW:PE X (.Dict [] [] pos) vH:=λpins s σ H Q I h =>
 wpAny_Dict_empty ⟨.ref s.heap.objs.size,_,I.laid (a:=s.heap.objs.size) (o :=.dT []) (t':=s.toks) (λ_ _ q=>wX _ q) (xg _) (rV s.heap I.big),rfl,h _ (I.hok.fresh (xg _))⟩
end
section
variable  {X:Cx}{pins:List (Addr×Obj)}{σ:St}{H:Hp}{s:xh}{a:Addr}{y d:V}{u r:xb}{o:Option V}{A:yh}{E:xb->xh->Prop}
end
section
variable  {X:Cx}{o e f:Expr}{apos cpos:Pos}{td ty tx:TE}
end
section
variable  {X:Cx}{pins:List (Addr×Obj)}{σ:St}{H:Hp}{s:xh}{a:Addr}{kvs:List (Key×V)}{A:yh}{E:xb->xh->Prop}
end
section
variable  {X:Cx}{pins:List (Addr×Obj)}{σ:St}{H:Hp}{s:xh}{a:Addr}{y:V}{u:xb}{A:yh}{E:xb->xh->Prop}
end
open PySem PySem.Spec PyProof.Rows
section
variable  {X:Cx}
end
section
variable  {κ:Type}[DecidableEq κ]
end
open PySem PyProof.Rows
section
variable  {X:Cx}
def vI (ns ms:List Int)(j:Nat):Bool:=ns.getD j 0 == ms.getD j 0
theorem rX {ns ms:List Int}(h:ns.length=ms.length):((yj ns.length).all λj=>vI ns ms j)=decide (ns=ms):=by
 rw[zT,decide_eq_true_iff,yU]
 constructor
 ·intro hh
  refine DZ h λj h1 h2 =>?_
  have:=hh j (yf.mpr h1)
  unfold vI at this
  rw[xu,xu,xp h1,xp h2] at this
  exact of_decide_eq_true (by simpa using this)
 ·rintro rfl j _
  exact beq_self_eq_true _
theorem intAt {ns:List Int}{us:List xb}(r:Vals (ns.map V.int) us){j:Nat}(h:j<us.toArray.size):∃t,us.toArray[j] = .int (ns.getD j 0) t:=by
 have l:=r.length
 rw[wW] at l
 rw[xc] at h
 have e1:(ns.map V.int)[j]? = some (.int (ns.getD j 0)):=by
  rw[xW,xu,xp (by lia)]
  rfl
 obtain ⟨u,g1,q1⟩:=r.get e1
 have f1:us.toArray[j]=u:=by simp[xv] at g1;obtain ⟨_,g⟩:=g1;simpa using g
 rw[f1]
 exact q1
end
end L2
namespace HT
open PySem PySem.Spec PyProof.Rows
section
variable  {prog:xA}{w:xQ}{A:yh}{R:Result->xh->Prop}{I:Addr}{fp wr:List Addr}{n:Nat}{P:Nat->xb->Prop}{St:Nat->Heap->Prop}{kw:List (Str×xb)}
end
section
variable  {prog:xA}{w:xQ}{A:yh}{E:xb->xh->Prop}{s:xh}{l:Addr}{xs:Array (Int×Tok)}
end
end HT
namespace L2
open PySem PyProof.Rows
section
variable  {X:Cx}{x:Str}{id:String}{e:Expr}{es:List Expr}{kws:List Keyword}{p pos:Pos}{t tk:TA}{ks:List Str}{r:List V->List V->Hp->VK->Prop}
end
open PySem PyProof.Rows
section
variable  {X:Cx}
theorem nF {ns:List Int}{j:Nat}(h:j<ns.length):ns.getD j 0∈ns:=by
 rw[xu,xp h]
 exact zk h
theorem nG {ns:List Int}{a:Int}(h:a∈ns):∃j,j<ns.length/\ns.getD j 0=a:=by
 obtain ⟨j,hj,e⟩:=Bv h
 exact ⟨j,hj,by rw[xu,xp hj];exact e⟩
end
end L2
namespace L2.Rev
open PySem
open Sem (wp)
section
variable  {prog:xA}{w:xQ}{A:yh}{E:xb->xh->Prop}{s:xh}
end
end L2.Rev
namespace L2
open PySem PySem.Spec PyProof.Rows
section
variable  {X:Cx}
theorem my:yo "reversed" = some (.type "reversed"):=by decide +kernel
end
end L2
namespace L2.Rem
open PySem PySem.SeqAt PySem.MeetsSeq
open AutoSeq1 (wpAny_loadPart')
end L2.Rem
namespace L2
open PySem PySem.Spec PyProof.Rows
section
variable  {X:Cx}
theorem any_range {bs:List Bool}:((yj bs.length).any λi=>bs.getD i false)=bs.any id:=by
 rw[zT,Ad,Ad]
 constructor
 ·rintro ⟨i,hi,h⟩
  have lt:=yf.mp hi
  rw[xu,xp lt] at h
  exact ⟨bs[i],zk lt,h⟩
 ·rintro ⟨b,hb,h⟩
  obtain ⟨i,lt,e⟩:=Bv hb
  refine ⟨i,yf.mpr lt,?_⟩
  rw[xu,xp lt,e]
  exact h
theorem gw (hc:X.calm=true):bK X (.builtin "any") (λxs H Q=>∃(p:Addr) (bs:List Bool),xs=[.ref p]/\SqL X.K H p (bs.map V.bl)/\Q (.bl (bs.any id)) H):=by
 intro pins s σ H xs us Q I r h
 obtain ⟨p,bs,rfl,hs,q⟩:=h
 obtain ⟨u,rfl,ru⟩:=vals1 r
 cases (show u=xB p from ru)
 obtain ⟨its,rv,pl,hz⟩:=I.list hs
 have l:=rv.length
 rw[wW] at l
 have hpl:p<s.heap.objs.size:=by obtain ⟨o,_,e,_⟩:=pl;exact xt e
 refine call_any_walk (Ax pl.isList ?_)
 have hd:X.A.in1.handled=none:=I.ok.hd hc
 refine ⟨s.heap.objs.size,_,_,_,_,_,_,rfl,Ej hd s.heap.objs.size p (xF hpl) its.toArray,⟨⟨_,xr _ rfl,rfl,rfl⟩,?_⟩,ig rv,λh' tk k =>?_⟩
 ·exact pl.isList.at λo e=>wX _ e
 ·have e:((yj its.toArray.size).any λi=>bs.getD i false)=bs.any id:=by rw[xc, <- l,any_range]
  rw[e]
  refine ⟨.bl (bs.any id),H,I.kept (t':=tk) (λb o eb=>k b o ?_ (wX _ eb)),rfl,q⟩
  intro hb
  have:b=s.heap.objs.size:=by simpa using hb
  exact absurd (xt eb) (by rw[this];exact yt _)
theorem op_neTE {k:Nat}(hr:cq k X.A):OpR X (yI .NotEq) (λx y H Q=>∃a b xs ys,x = .ref a/\y = .ref b/\SqT X.K H a xs/\SqT X.K H b ys/\Paired (eV X.K H 20) xs ys/\Q (.bl false) H):=by
 intro pins s σ H x y v u Q I rx ry h
 obtain ⟨a,b,xs,ys,rfl,rfl,h1,h2,p,q⟩:=h
 cases (show v=xB a from rx)
 cases (show u=xB b from ry)
 obtain ⟨its,r1,p1,_⟩:=I.tuple h1
 obtain ⟨its2,r2,p2,_⟩:=I.tuple h2
 have l1:=r1.length
 have l2:=r2.length
 have pl:=zu p
 have hu:=hr.un
 have hu1:X.A.units<cLine:=by lia
 have R:=C9 (A:=X.A) (e:=λ_=>true) (show s.heap.IsTuple a its.toArray from p1) (show s.heap.IsTuple b its2.toArray from p2) hu1 (cQ p r1 r2 λx y u v h1 h2 h3=>gR I 20 _ x y u v (by show X.A.units+1+_<cLine;lia) h1 h2 h3)
 rw[xc,xc, <- l1, <- l2,pl,CD,beq_self_eq_true,all_true] at R
 exact R _ _ _ _ ⟨.bl false,H,I,rfl,q⟩
theorem tY {k:Nat}(hr:cq k X.A):OpR X (yI .Eq) (λx y H Q=>∃a b xs ys,x = .ref a/\y = .ref b/\SqL X.K H a xs/\SqL X.K H b ys/\Paired (eV X.K H 20) xs ys/\Q (.bl true) H):=by
 intro pins s σ H x y v u Q I rx ry h
 obtain ⟨a,b,xs,ys,rfl,rfl,h1,h2,p,q⟩:=h
 cases (show v=xB a from rx)
 cases (show u=xB b from ry)
 obtain ⟨its,r1,p1,_⟩:=I.list h1
 obtain ⟨its2,r2,p2,_⟩:=I.list h2
 have l1:=r1.length
 have l2:=r2.length
 have pl:=zu p
 have hu:=hr.un
 have hu1:X.A.units<cLine:=by lia
 have R:=Bf (A:=X.A) (e:=λ_=>true) p1.isList p2.isList (by rw[xc,xc, <- l1, <- l2,pl]) hu1 (cQ p r1 r2 λx y u v h1 h2 h3=>gR I 20 _ x y u v (by show X.A.units+1+_<cLine;lia) h1 h2 h3)
 rw[all_true] at R
 exact R _ _ _ _ ⟨.bl true,H,I,rfl,q⟩
end
open PySem PySem.Spec PyProof.Rows
section
variable  {X:Cx}
theorem iu:bK X (.builtin "len") (λxs H Q=>∃(a:Addr) (ys:List V),xs=[.ref a]/\H a=some (jE X.w a ys)/\ys.length<1000/\Q (.int ys.length) H):=by
 intro pins s σ H xs us Q I r h
 obtain ⟨a,ys,rfl,ha,hl,q⟩:=h
 obtain ⟨u,rfl,ru⟩:=vals1 r
 cases (show u=xB a from ru)
 obtain ⟨⟨es,⟨ep,t,ho,T,_⟩,rv⟩,_⟩:=(show bo X.prog X.w H s.heap a (jE X.w a ys) from I.hok a _ ha)
 have l:=rv.length
 have l2:es.size=ys.length:=by simpa using l.symm
 refine call_len_set ho ⟨rfl,rfl,rfl⟩ rfl (by have:=T.fits;rwa [yE] at this) (by lia) ?_
 rw[l2]
 exact ⟨.int ys.length,H,I.tok _,⟨_,rfl⟩,q⟩
end
open PySem PySem.Spec PyProof.Rows
theorem rY {xs:List Int}{d:Int}(h0:0<=d)(h1:d<xs.length):∃v,v∈xs/\atI (xs.map V.int) d=some (.int v):=by
 obtain ⟨n,rfl⟩:∃n:Nat,d=n:=⟨d.toNat,by lia⟩
 have hn:n<xs.length:=by lia
 refine ⟨xs[n],zk hn,fu ?_⟩
 rw[xW,xp hn]
 rfl
theorem iC {α:Type}{g:α -> Addr}{ts:List α}{d:Int}(h0:0<=d)(h1:d<ts.length):∃u,u∈ts/\atI (ts.map λt=>V.ref (g t)) d=some (.ref (g u)):=by
 obtain ⟨n,rfl⟩:∃n:Nat,d=n:=⟨d.toNat,by lia⟩
 have hn:n<ts.length:=by lia
 refine ⟨ts[n],zk hn,fu ?_⟩
 rw[xW,xp hn]
 rfl
theorem eG (k:Int):∀ps:List Int,inV (.int k) (ps.map V.int)=decide (k∈ps)
 | []=>by simp[inV]
 | p :: ps=>by
  have ih:=eG k ps
  unfold inV at ih ⊢
  rw[xJ,Ar,ih]
  have e:eqV (.int p) (.int k)=(p == k):=rfl
  rw[e]
  by_cases h:p=k
  ·subst h;simp
  ·rw[beq_eq_false_iff_ne.mpr h,Dt]
   apply decide_eq_decide.mpr
   rw[xK]
   exact ⟨.inr,λx=>x.elim (λy=>absurd y.symm h) id⟩
theorem qo (ns:List Int)(lo hi:Option Int):∃ms:List Int,bL (ns.map V.int) lo hi=ms.map V.int/\ms.length<=ns.length/\∀v∈ms,v∈ns:=by
 refine ⟨(ns.drop (HT.sIx (ns.map V.int).length 0 lo)).take (HT.sIx (ns.map V.int).length (ns.map V.int).length hi-HT.sIx (ns.map V.int).length 0 lo),?_,?_,λv hv=>zC (zD hv)⟩
 ·unfold bL
  rw[Av,Dr]
 ·rw[yy,y3]
  lia
def Pt (n:Nat)(H:Hp)(p:Addr):Prop:=∃xs:List Int,xs.length=n/\H p=some (.lst (xs.map V.int))
structure Bu (n:Nat)(p:Addr)(H H':Hp):Prop where
 pot:Pt n H' p
 st:∀q o,q≠p->H q=some o->H' q=some o
theorem Pt.same {n:Nat}{p:Addr}{H H1:Hp}(a:Pt n H p)(s:aK H H1):Pt n H1 p:=by obtain ⟨xs,l,e⟩:=a;exact ⟨xs,l,s _ _ e⟩
theorem Pt.neT {n:Nat}{p b:Addr}{H:Hp}{ys:List V}(a:Pt n H p)(h:H b=some (.tup ys)):b≠p:=by
 obtain ⟨xs,_,e⟩:=a
 exact jR h e (by intro z;cases z)
theorem Bu.refl {n:Nat}{p:Addr}{H:Hp}(h:Pt n H p):Bu n p H H:=⟨h,λ_ _ _ z=>z⟩
theorem Bu.trans {n:Nat}{p:Addr}{H H1 H2:Hp}(a:Bu n p H H1)(b:Bu n p H1 H2):Bu n p H H2:=⟨b.pot,λq o m z=>b.st q o m (a.st q o m z)⟩
theorem Bu.same {n:Nat}{p:Addr}{H H1 H2:Hp}(a:Bu n p H H1)(b:aK H1 H2):Bu n p H H2:=⟨a.pot.same b,λq o m z=>b _ _ (a.st q o m z)⟩
theorem Bu.put {n:Nat}{p:Addr}{H H1:Hp}(a:Bu n p H H1){ys:List Int}(l:ys.length=n):Bu n p H (upd H1 p (.lst (ys.map V.int))):=⟨⟨ys,l,ae⟩,λq o m z=>by rw[aG m];exact a.st q o m z⟩
theorem Bu.fc {n:Nat}{p l:Addr}{H H1:Hp}(a:Bu n p H H1)(hl:H l=none)(np:l≠p)(o:HO):Bu n p H (upd H1 l o):=⟨by obtain ⟨xs,z,e⟩:=a.pot;exact ⟨xs,z,by rw[aG np.symm];exact e⟩,λq u m z=>by rw[aG (aP z hl)];exact a.st q u m z⟩
theorem Bu.tup {n:Nat}{p q:Addr}{H H1:Hp}(a:Bu n p H H1)(h:Pt n H p){xs:List V}(t:H q=some (.tup xs)):H1 q=some (.tup xs):=a.st q _ (h.neT t) t
theorem Bu.fresh {n:Nat}{p:Addr}{H H':Hp}{o:HO}(h:H p=none)(b:Bu n p (upd H p o) H'):aK H H':=λq u e=>by
 have m:q≠p:=aP e h
 refine b.st q u m ?_
 rw[aG m]
 exact e
def Tus (H:Hp)(ts:List (Addr×List Int)):Prop:=∀u∈ts,H u.1=some (.tup (u.2.map V.int))
theorem Tus.same {H H':Hp}{ts:List (Addr×List Int)}(h:Tus H ts)(s:aK H H'):Tus H' ts:=λu hu=>s _ _ (h u hu)
theorem Tus.bu {n:Nat}{p:Addr}{H H':Hp}{ts:List (Addr×List Int)}(h:Tus H ts)(b:Bu n p H H')(hp:Pt n H p):Tus H' ts:=λu hu=>b.tup hp (h u hu)
theorem Tus.snoc {H:Hp}{ts:List (Addr×List Int)}(h:Tus H ts){u:Addr×List Int}(e:H u.1=some (.tup (u.2.map V.int))):Tus H (ts++[u]):=λv hv=>by
 rcases xx.mp hv with z | z
 ·exact h v z
 ·rw[xo] at z;subst z;exact e
variable  {X:Cx}
open PySem PySem.Spec PyProof.Rows
section
variable  {X:Cx}
def oQ (K:wY):R2:=λx y H Q=>∃a b xs ys,x = .ref a/\y = .ref b/\SqT K H a xs/\SqT K H b ys/\xs.length+ys.length<=xf/\(xs=[]->Q (.ref b) H)/\(ys=[]->Q (.ref a) H)/\(xs≠[]->ys≠[]->∀p,H p=none->Q (.ref p) (upd H p (.tup (xs++ys))))
theorem rZ:OpR X (binaryOp .Add) (oQ X.K):=by
 intro pins s σ H x y v u Q I rx ry h
 obtain ⟨a,b,xs,ys,rfl,rfl,ha,hb,hz,q1,q2,q3⟩:=h
 by_cases hx:xs=[]
 ·cases rx
  cases ry
  obtain ⟨its,r1,p1,_⟩:=I.tuple ha
  obtain ⟨its2,r2,p2,_⟩:=I.tuple hb
  obtain ⟨⟨c1,d1,da1,s1⟩,o1,k1,n1,g1⟩:=id p1
  obtain ⟨⟨c2,d2,da2,s2⟩,o2,k2,n2,g2⟩:=id p2
  simp only at k1 g1 k2 g2
  subst k1 g1 k2 g2
  have e0:its=[]:=r1.iA.mpr hx
  exact CQ ⟨_,o1,rfl⟩ ⟨_,o2,rfl⟩ Cp Dw A6 AS (AJ _ _)
   (tuple_addW0 a b its.toArray its2.toArray n1 n2 d1 d2 s1 s2 (by simp[e0])) ⟨o1,o2,⟨.ref b,H,I,rfl,q1 hx⟩⟩
 ·exact sW pins s σ H _ _ v u Q I rx ry ⟨a,b,xs,ys,rfl,rfl,ha,hb,hx,hz,q2,λhy=>q3 hx hy⟩
theorem oQ.one {K:wY}{H:Hp}{Q:VK}{a b:Addr}{xs ys:List V}(ha:H a=some (.tup xs))(hb:H b=some (.tup ys))(hz:xs.length+ys.length<=xf)(q:∀p H',aK H H'->H' p=some (.tup (xs++ys))->Q (.ref p) H'):oQ K (.ref a) (.ref b) H Q:=by
 refine ⟨a,b,xs,ys,rfl,rfl,SqT.of ha,SqT.of hb,hz,λz =>?_,λz =>?_,λ_ _ p hp=>q p _ (ab hp _) ae⟩
 ·subst z;exact q b H (aK.refl _) hb
 ·subst z;exact q a H (aK.refl _) (by rw[yu];exact ha)
end
theorem qp {K:wY}{a:Addr}{xs:List V}{k l:Nat}{tc:TT}{te:TE}{τ:St}{H:Hp}{Q:VK}(Pv:Nat->List V->Hp->Prop)(hkl:k≠l)(h0:Pv 0 [] H)(hz:xs.length<=xf)
  (hl:∀i ys H,i<=xs.length->Pv i ys H->SqT K H a xs)
  (hs:∀i x ys H T,xs[i]? = some x->ys.length<=i->H T=none->Pv i ys H->uH k l tc te τ Pv i (.int i) x ys (upd H T (.tup [.int i,x])))
  (hd:∀ys H,ys.length<=xs.length->Pv xs.length ys H->∀r,H r=none->Q (.ref r) (upd H r (.lst ys))):eS (ItE K a) (rj K k l) tc te τ Q H:=by
 refine ⟨λi m σ ys H=>m=xs.length-i/\i<=xs.length/\(∀a b,(σ.set k (some a)).set l (some b)=(τ.set k (some a)).set l (some b))/\ys.length<=i/\Pv i ys H,⟨xs.length,by simp,yk _,λ_ _=>rfl,xg _,h0⟩,?_⟩
 rintro i m σ ys H ⟨rfl,hi,hτ,hy,pv⟩
 have q:=hl i ys H hi pv
 by_cases hlt:i<xs.length
 ·refine .inr ⟨⟨xs,xs[i],q,by simp[hlt]⟩,λx H' y =>?_⟩
  obtain ⟨T,v,hT,ex,eH,hv⟩:=y
  subst ex eH
  refine ⟨T,_,rfl,SqT.of ae,rfl,_,_,rfl,_,_,rfl,rfl,?_⟩
  rw[hτ]
  have hσ:∀a b,((((τ.set k (some (V.int i))).set l (some v)).set k (some a)).set l (some b))=(τ.set k (some a)).set l (some b):=λa b=>by
   rw[Eu _ _ (zA hkl),AK,AK]
  refine hs i v ys _ T (hv xs q) hy hT pv _ _ (λy4 H4 p4=>⟨by lia,xs.length-(i+1),by lia,rfl,hlt,hσ,by rw[w9,yv];lia,p4⟩) λH3 p3=>⟨xs.length-(i+1),by lia,rfl,hlt,hσ,by lia,p3⟩
 ·have e:i=xs.length:=by lia
  subst e
  exact .inl ⟨⟨_,q,xg _⟩,by lia,hd ys H hy pv⟩
open PySem PySem.Spec PyProof.Rows
theorem kn {α β:Type}{f:α -> Option β}{g:α -> β}:∀{l:List α},(∀k∈l,f k=some (g k))->l.filterMap f=l.map g
 | [],_=>rfl
 | x :: l,h=>by
  rw[AE,h x xN,xJ,kn λk hk=>h k (xR _ hk)]
open PySem PySem.Spec PyProof.Rows
section
variable  {X:Cx}
theorem tZ {K:wY}{tg l:Expr}{tl:TE}(hl:PE X l tl)(h:X.K=K:=by rfl):PI X tg l (wc K tl):=by subst h;exact cW hl
theorem qq {K:wY}(hc:X.calm=true)(h:X.K=K:=by rfl):bK X (.builtin "all") (λxs H Q=>∃(p:Addr) (bs:List Bool),xs=[.ref p]/\SqL K H p (bs.map V.bl)/\Q (.bl (bs.all id)) H):=by subst h;exact dI hc
end
open PySem PySem.Spec PyProof.Rows
section
variable  {X:Cx}
theorem qr:v9 X (λo i H Q=>∃(p:Addr) (xs:List V) (k:Nat) (v:V),o = .ref p/\i = .int k/\SqL X.K H p xs/\xs[k]? = some v/\Q v H):=by
 intro pins s σ H o i ov iv Q I ro ri h
 obtain ⟨p,xs,k,v,rfl,rfl,hq,he,q⟩:=h
 cases (show ov=xB p from ro)
 obtain ⟨t,rfl⟩:=(show ∃t,iv=yJ k t from ri)
 obtain ⟨its,r,pl,hz⟩:=I.list hq
 obtain ⟨w,ew,rw'⟩:=r.get he
 have hk:k<xs.length:=(xv.mp he).1
 have hn:=iR
 exact wpAny_getItem_list pl.isList (by lia) (by lia) (by simpa using ew) ⟨v,H,I,rw',q⟩
theorem qu (hc:X.calm=true):bK X (.builtin "min") (λxs H Q=>∃(a:Addr) (ns:List Int),xs=[.ref a]/\SqL X.K H a (ns.map V.int)/\ns≠[]/\∀M:Int,M∈ns->(∀b∈ns,M<=b)->Q (.int M) H):=by
 intro pins s σ H xs us Q I r h
 obtain ⟨a,ns,rfl,hS,hne,q⟩:=h
 obtain ⟨u,rfl,ru⟩:=vals1 r
 cases (show u=xB a from ru)
 obtain ⟨its,r1,p1,_⟩:=I.list hS
 obtain ⟨ps,e2,e3⟩:=cp (intsAre_of r1)
 have ei:its.toArray=zz ps.toArray:=by rw[e2];simp[zz]
 have hl:s.heap.IsList a (zz ps.toArray):=by rw[<- ei];exact p1.isList
 have hz:ps.toArray.size=ns.length:=by rw[xc, <- e3,wW]
 have hp:0<ns.length:=yK.mpr hne
 have ht:ps.toArray.toList.map (·.1)=ns:=e3
 refine min_intList (I.ok.hd hc) hl (by lia) λv h' tk hv k =>?_
 rw[hz] at hv
 obtain ⟨t,rfl⟩:=Cn hv
 obtain ⟨h1,h2⟩:=argBest_lt (numAt ps.toArray) (ns.length-1)
 refine ⟨.int _,H,I.kept k,⟨_,rfl⟩,q _ ?_ λb hb =>?_⟩
 ·rw[A3,ht];exact nF (by lia)
 ·obtain ⟨j,hj,rfl⟩:=nG hb
  have:=h2 j (by lia)
  rw[A3,A3,ht] at this
  rw[A3,ht]
  exact this
def EqS (K:wY)(H:Hp):Nat->V->V->Prop
 | 0,x,y=>(∃i,x = .int i/\y = .int i)\/(∃i,x = .str i/\y = .str i)\/∃a,x = .ref a/\y = .ref a
 | n+1,x,y=>(∃i,x = .int i/\y = .int i)\/(∃i,x = .str i/\y = .str i)\/(∃a,x = .ref a/\y = .ref a)\/∃a b xs ys,x = .ref a/\y = .ref b/\((SqT K H a xs/\SqT K H b ys)\/(SqL K H a xs/\SqL K H b ys))/\Paired (EqS K H n) xs ys
theorem dJ {K:wY}{H:Hp}{n:Nat}{s:xh}{A:yh}{xs ys:List V}{us vs:List xb}(p:Paired (EqS K H n) xs ys)(r1:Vals xs us)(r2:Vals ys vs)
  (ih:∀x y u v,EqS K H n x y->RelV x u->RelV y v->zZ A s u v true):∀j (h1:j<us.toArray.size) (h2:j<vs.toArray.size),zZ A s us.toArray[j] vs.toArray[j] true:=λj h1 h2=>by
 rw[xc] at h1 h2
 have l1:=r1.length
 have l2:=r2.length
 have e1:xs[j]? = some xs[j]:=xp (by omega)
 have e2:ys[j]? = some ys[j]:=xp (by omega)
 obtain ⟨u,g1,q1⟩:=r1.get e1
 obtain ⟨v,g2,q2⟩:=r2.get e2
 have f1:us.toArray[j]=u:=by simp[xv] at g1;obtain ⟨_,g⟩:=g1;simpa using g
 have f2:vs.toArray[j]=v:=by simp[xv] at g2;obtain ⟨_,g⟩:=g2;simpa using g
 rw[f1,f2]
 exact ih _ _ u v (gQ p e1 e2) q1 q2
theorem gz {A:yh}{s:xh}{x y:V}{u v:xb}(h:(∃i,x = .int i/\y = .int i)\/(∃i,x = .str i/\y = .str i)\/∃a,x = .ref a/\y = .ref a)(ru:RelV x u)(rv:RelV y v):zZ A s u v true:=by
 rcases h with ⟨i,rfl,rfl⟩ | ⟨i,rfl,rfl⟩ | ⟨a,rfl,rfl⟩
 ·obtain ⟨t,rfl⟩:=(show ∃t,u=yJ i t from ru)
  obtain ⟨t',rfl⟩:=(show ∃t,v=yJ i t from rv)
  have:=Ah (A:=A) (s:=s) i t i t'
  rw[beq_self_eq_true] at this
  exact this
 ·obtain ⟨t,rfl⟩:=(show ∃t,u=Value.str i t from ru)
  obtain ⟨t',rfl⟩:=(show ∃t,v=Value.str i t from rv)
  have:=Di (A:=A) (s:=s) i t i t'
  rw[show (i == i)=true by simp] at this
  exact this
 ·cases (show u=xB a from ru)
  cases (show v=xB a from rv)
  exact Am _
theorem kT {pins:List (Addr×Obj)}{σ:St}{H:Hp}{s:xh}(I:Inv X pins σ H s):∀(n:Nat) (A:yh) (x y:V) (u v:xb),A.units+n<cLine->EqS X.K H n x y->RelV x u->RelV y v->zZ A s u v true
 | 0,A,x,y,u,v,_,h,ru,rv=>gz h ru rv
 | n+1,A,x,y,u,v,hA,h,ru,rv=>by
  rcases h with h | h | h | ⟨a,b,xs,ys,rfl,rfl,hs,p⟩
  ·exact gz (.inl h) ru rv
  ·exact gz (.inr (.inl h)) ru rv
  ·exact gz (.inr (.inr h)) ru rv
  ·cases (show u=xB a from ru)
   cases (show v=xB b from rv)
   by_cases hab:a=b
   ·subst hab;exact Am _
   refine Dj hab ?_
   have ih:∀x y u v,EqS X.K H n x y->RelV x u->RelV y v->zZ A.in1 s u v true:=λx y u v h1 h2 h3=>kT I n A.in1 x y u v (by show A.units+1+n<cLine;lia) h1 h2 h3
   have pl:=zu p
   rcases hs with ⟨h1,h2⟩ | ⟨h1,h2⟩
   ·obtain ⟨its,r1,p1,_⟩:=I.tuple h1
    obtain ⟨its2,r2,p2,_⟩:=I.tuple h2
    have q:=DD (e:=λ_=>true) (show s.heap.IsTuple a its.toArray from p1) (show s.heap.IsTuple b its2.toArray from p2) (by lia) (dJ p r1 r2 ih)
    have ez:its.toArray.size=its2.toArray.size:=by rw[xc,xc, <- r1.length, <- r2.length,pl]
    rw[all_true,ez,beq_self_eq_true] at q
    exact q
   ·obtain ⟨its,r1,p1,_⟩:=I.list h1
    obtain ⟨its2,r2,p2,_⟩:=I.list h2
    have q:=Bf (e:=λ_=>true) p1.isList p2.isList (by rw[xc,xc, <- r1.length, <- r2.length,pl]) (by lia) (dJ p r1 r2 ih)
    rw[all_true] at q
    exact q
theorem t6 {k:Nat}(hr:cq k X.A):OpR X (yI .NotEq) (λx y H Q=>∃a b xs ys,x = .ref a/\y = .ref b/\SqT X.K H a xs/\SqT X.K H b ys/\Paired (EqS X.K H 20) xs ys/\Q (.bl false) H):=by
 intro pins s σ H x y v u Q I rx ry h
 obtain ⟨a,b,xs,ys,rfl,rfl,h1,h2,p,q⟩:=h
 cases (show v=xB a from rx)
 cases (show u=xB b from ry)
 obtain ⟨its,r1,p1,_⟩:=I.tuple h1
 obtain ⟨its2,r2,p2,_⟩:=I.tuple h2
 have l1:=r1.length
 have l2:=r2.length
 have pl:=zu p
 have hu:=hr.un
 have hu1:X.A.units<cLine:=by lia
 have R:=C9 (A:=X.A) (e:=λ_=>true) (show s.heap.IsTuple a its.toArray from p1) (show s.heap.IsTuple b its2.toArray from p2) hu1 (dJ p r1 r2 λx y u v h1 h2 h3=>kT I 20 _ x y u v (by show X.A.units+1+_<cLine;lia) h1 h2 h3)
 rw[xc,xc, <- l1, <- l2,pl,CD,beq_self_eq_true,all_true] at R
 exact R _ _ _ _ ⟨.bl false,H,I,rfl,q⟩
end
end L2
namespace L2.RvT
open PySem PyProof.Rows
open Sem (wp)
theorem qv:Slot "reversed" "__init__" "object.__init__" :=
 .of (owner := "object") (n := "__init__") (by rw[typeLookup_type,builtinLookup_eq_fast];kernel_rfl) (by decide +kernel) (by decide +kernel) (by decide +kernel)
  (by first | exact .inl (by decide +kernel) | exact .inr (by decide +kernel)) (by rw[B2];kernel_rfl)
theorem called:TypeCalled "reversed" "reversed.__new__" "object.__init__" :=
 ⟨by decide +kernel,by decide +kernel,⟨_,_,C0⟩,madeBy_type C0 PySem.F.lookup_reversed_new (by decide +kernel),by decide +kernel,by rw[B2];kernel_rfl,qv⟩
section
variable  {prog:xA}{w:xQ}{A:yh}{E:xb->xh->Prop}{s:xh}
end
section
variable  {prog:xA}{w:xQ}{A:yh}{E:xb->xh->Prop}{s:xh}
end
end L2.RvT
namespace L2
open PySem PySem.Spec PyProof.Rows
section
variable  {X:Cx}
theorem op_eqLI {k:Nat}(hr:cq k X.A):OpR X (yI .Eq) (λx y H Q=>∃(a b:Addr) (ns ms:List Int),x = .ref a/\y = .ref b/\SqL X.K H a (ns.map V.int)/\SqL X.K H b (ms.map V.int)/\Q (.bl (decide (ns=ms))) H):=by
 intro pins s σ H x y v u Q I rx ry h
 obtain ⟨a,b,ns,ms,rfl,rfl,h1,h2,q⟩:=h
 cases (show v=xB a from rx)
 cases (show u=xB b from ry)
 obtain ⟨its,r1,⟨⟨c1,d1,da1,sl1⟩,n1,e1,k1,_,k3⟩,_⟩:=I.list h1
 obtain ⟨its2,r2,⟨⟨c2,d2,da2,sl2⟩,n2,e2,g1,_,g3⟩,_⟩:=I.list h2
 simp only at k1 k3 g1 g3
 subst k1 k3 g1 g3
 have l1:=r1.length
 have l2:=r2.length
 rw[wW] at l1 l2
 have hu:=hr.un
 have hu1:X.A.units<cLine:=by lia
 by_cases hl:ns.length=ms.length
 ·refine Ag (op :=.Eq) ⟨_,e1,rfl⟩ ⟨_,e2,rfl⟩ C3 CK (Co _ _) (SeqAt.list_eqAt a b its.toArray its2.toArray n1 n2 d1 d2 sl1 sl2 (by rw[xc,xc];lia) (vI ns ms)) ⟨e1,e2,?_,?_⟩ hu1
  ·intro j h1 h2
   obtain ⟨t1,g1⟩:=intAt r1 h1
   obtain ⟨t2,g2⟩:=intAt r2 h2
   rw[g1,g2]
   exact Ah _ t1 _ t2
  ·have ez:its.toArray.size=ns.length:=by rw[xc];lia
   rw[ez,rX hl]
   exact ⟨(λz=>nomatch z),⟨.bl _,H,I,rfl,q⟩⟩
 ·have ne:ns≠ms:=λz=>hl (by rw[z])
  rw[decide_eq_false ne] at q
  refine Ag (op :=.Eq) ⟨_,e1,rfl⟩ ⟨_,e2,rfl⟩ C3 CK (Co _ _) (Cf a b its.toArray its2.toArray n1 n2 d1 d2 sl1 sl2 (by simp;lia)) ⟨e1,e2,?_⟩ hu1
  exact ⟨(λz=>nomatch z),⟨.bl false,H,I,rfl,q⟩⟩
theorem vJ {k:Nat}(hr:cq k X.A):OpR X (yI .Eq) (λx y H Q=>∃a b xs ys,x = .ref a/\y = .ref b/\SqL X.K H a xs/\SqL X.K H b ys/\((xs.length≠ys.length/\Q (.bl false) H)\/(Paired (eV X.K H 20) xs ys/\Q (.bl true) H))):=by
 intro pins s σ H x y v u Q I rx ry h
 obtain ⟨a,b,xs,ys,rfl,rfl,h1,h2,h3⟩:=h
 rcases h3 with ⟨ne,q⟩ | ⟨p,q⟩
 ·cases (show v=xB a from rx)
  cases (show u=xB b from ry)
  obtain ⟨its,r1,⟨⟨c1,d1,da1,sl1⟩,n1,e1,k1,_,k3⟩,_⟩:=I.list h1
  obtain ⟨its2,r2,⟨⟨c2,d2,da2,sl2⟩,n2,e2,g1,_,g3⟩,_⟩:=I.list h2
  simp only at k1 k3 g1 g3
  subst k1 k3 g1 g3
  have l1:=r1.length
  have l2:=r2.length
  have hu:=hr.un
  have hu1:X.A.units<cLine:=by lia
  refine Ag (op :=.Eq) ⟨_,e1,rfl⟩ ⟨_,e2,rfl⟩ C3 CK (Co _ _) (Cf a b its.toArray its2.toArray n1 n2 d1 d2 sl1 sl2 (by simp;lia)) ⟨e1,e2,?_⟩ hu1
  exact ⟨(λz=>nomatch z),⟨.bl false,H,I,rfl,q⟩⟩
 ·exact tY hr pins s σ H _ _ v u Q I rx ry ⟨a,b,xs,ys,rfl,rfl,h1,h2,p,q⟩
theorem gA:SlR X (λx lo hi H Q=>∃a xs,x = .ref a/\H a=some (.tup xs)/\∀p2 H2,aK H H2->H2 p2=some (.tup (bL xs lo hi))->Q (.ref p2) H2):=by
 intro pins s σ H x v vl vu lo hi sl Q I rx hs pl pu h
 obtain ⟨a,xs,rfl,ep,key⟩:=h
 refine tW pins s σ H _ v vl vu lo hi sl Q I rx hs pl pu ⟨a,xs,rfl,SqT.of ep,λz=>key a H (aK.refl _) ?_,λ_ p2 hp2=>key p2 _ (ab hp2 _) ae⟩
 unfold bL
 rw[z.1,z.2,BS,Nat.sub_zero,zo]
 exact ep
theorem da:OpR X (binaryOp .Add) (λx y H Q=>∃a b xs ys,x = .ref a/\y = .ref b/\H a=some (.tup xs)/\H b=some (.tup ys)/\xs.length+ys.length<=xf/\∀p H',aK H H'->H' p=some (.tup (xs++ys))->Q (.ref p) H'):=by
 intro pins s σ H x y v u Q I rx ry h
 obtain ⟨a,b,xs,ys,rfl,rfl,ha,hb,hz,q⟩:=h
 exact rZ pins s σ H _ _ v u Q I rx ry (oQ.one ha hb hz q)
end
end L2
namespace L2.MnT
open PySem PyProof.Rows
section
variable  {prog:xA}{w:xQ}{A:yh}{E:xb->xh->Prop}{I:Addr}{fp wr:List Addr}{n:Nat}{P:Nat->xb->Prop}{St:Nat->Heap->Prop}
def Cmp (prog:xA)(w:xQ)(A:yh)(P:Nat->xb->Prop)(St:Nat->Heap->Prop)(bt:Nat->Nat->Bool):Prop :=
 ∀k i j x y (s:xh) (Q E:xb->xh->Prop),St k s.heap->P i x->P j y->Q (.bool (bt i j)) s->xM (xT prog w) A (richCompare .Lt x y) Q E s
abbrev Bag (S:Addr)(xs:Array xb)(c:Nat)(h:Heap):Prop:=h.get? S=some { cls :=.type "list",dict:=none,data :=.seq xs c,slots := #[] }
abbrev Kept (wr:List Addr)(S:Addr)(h h':Heap):Prop:=∀b o,b∉wr->b≠S->h.get? b=some o->h'.get? b=some o
theorem loop {R:Result->xh->Prop}(W:Walks prog w A.in1 I fp wr n P St){bt:Nat->Nat->Bool}(C:Cmp prog w A.in1 P St bt){S:Addr}(nS:S∉fp):∀(d j:Nat) (s:xh) (best:xb) (c:Nat),n=j+1+d->St (j+1) s.heap->P (argBest bt j) best->Bag S #[best,best] c s.heap →
  (∀v h' tk,P (argBest bt (n-1)) v->Kept wr S s.heap h'->R (.ok (.ret v)) { s with heap:=h',toks:=tk })->Bl (xT prog w) A (.builtin "min.loop" ⟨[.ref I,.none,.ref S],[]⟩) R s:=by
 have nw:S∉wr:=λh=>nS (W.sub _ h)
 have nm:(toString "min" ++ toString ".loop" : String) = "min.loop" := by decide
 intro d
 induction d with
 | zero =>
  intro j s best c hn st pb bg hR
  have e:j+1=n:=by lia
  rw[e] at st
  refine yp A7 ?_
  rw[ym yX _]
  show xM _ _ (seqItems? (.ref S) >>= _) _ _ s
  refine wZ (Ba bg rfl ?_)
  show xM _ _ (tryCatch (pyNext (.ref I)) _ >>= _) _ _ s
  refine wZ (B3 (W.done s _ _ st λh1 tk kp =>?_))
  show xM _ _ (updateSeq S (λ_ => #[]) >>= _) _ _ _
  refine wZ ?_
  refine CU (kp S _ nw bg) rfl (wZ (Dd (xn (hR best _ tk (by rw[<- e];exact pb) ?_))))
  exact λb o nb ns eb=>(yc _ _ (zA ns)).trans (kp b o nb eb)
 | succ d ih =>
  intro j s best c hn st pb bg hR
  refine yp A7 ?_
  rw[ym yX _]
  show xM _ _ (seqItems? (.ref S) >>= _) _ _ s
  refine wZ (Ba bg rfl ?_)
  show xM _ _ (tryCatch (pyNext (.ref I)) _ >>= _) _ _ s
  refine wZ (B3 (W.item (j+1) s _ _ (by lia) st λv h1 tk pv st1 kp =>?_))
  have bg1:=kp S _ nw bg
  show xM _ _ (tryCatch (DK [v,v] (richCompare .Lt v best >>= _)) _ >>= _) _ _ _
  refine wZ (B3 (yL (wZ (C (j+1+1) (j+1) (argBest bt j) v best _ _ _ st1 pv pb ?_))))
  refine wZ (yL (yV ?_))
  refine wZ (Dd (xn ?_))
  by_cases hb:bt (j+1) (argBest bt j)=true
  ·have ea:argBest bt (j+1)=j+1:=by simp only[argBest,hb,if_true]
   rw[hb]
   simp only[if_true]
   refine wZ ?_
   refine CU bg1 rfl (wZ (Dd ?_))
   rw[nm]
   refine xn ⟨zw yX _,ih (j+1) _ v _ (by lia) (W.frame _ _ _ st1 λb fb o eb =>?_) (by rw[ea];exact pv) (yF _ bg1 rfl) λv2 h2 tk2 p2 k2=>hR v2 h2 tk2 p2 λb o nb ns eb=>k2 b o nb ns ?_⟩
   ·exact (yc _ _ (λz:S=b=>nS (z ▸ fb))).trans eb
   ·exact (yc _ _ (zA ns)).trans (kp b o nb eb)
  ·have ea:argBest bt (j+1)=argBest bt j:=by simp only[argBest,hb];rfl
   rw[zH.mpr hb]
   simp only[ze,if_false]
   refine wZ (Dd ?_)
   rw[nm]
   exact xn ⟨zw yX _,ih (j+1) _ best c (by lia) st1 (by rw[ea];exact pb) bg1 λv2 h2 tk2 p2 k2=>hR v2 h2 tk2 p2 λb o nb ns eb=>k2 b o nb ns (kp b o nb eb)⟩
theorem first {R:Result->xh->Prop}(W:Walks prog w A.in1 I fp wr n P St){bt:Nat->Nat->Bool}(C:Cmp prog w A.in1 P St bt){S:Addr}(nS:S∉fp)(hn:0<n){s:xh}{c:Nat}(st:St 0 s.heap)(bg:Bag S #[] c s.heap)
  (hR:∀v h' tk,P (argBest bt (n-1)) v->Kept wr S s.heap h'->R (.ok (.ret v)) { s with heap:=h',toks:=tk }):Bl (xT prog w) A (.builtin "min.loop" ⟨[.ref I,.none,.ref S],[]⟩) R s:=by
 have nw:S∉wr:=λh=>nS (W.sub _ h)
 have nm:(toString "min" ++ toString ".loop" : String) = "min.loop" := by decide
 refine yp A7 ?_
 rw[ym yX _]
 show xM _ _ (seqItems? (.ref S) >>= _) _ _ s
 refine wZ (Ba bg rfl ?_)
 show xM _ _ (tryCatch (pyNext (.ref I)) _ >>= _) _ _ s
 refine wZ (B3 (W.item 0 s _ _ hn st λv h1 tk pv st1 kp =>?_))
 have bg1:=kp S _ nw bg
 show xM _ _ (updateSeq S (λ_ => #[v,v]) >>= _) _ _ _
 refine wZ ?_
 refine CU bg1 rfl ?_
 rw[nm]
 refine xn ⟨zw yX _,loop W C nS (n-1) 0 _ v _ (by lia) (W.frame _ _ _ st1 λb fb o eb =>?_) pv (yF _ bg1 rfl) λv2 h2 tk2 p2 k2=>hR v2 h2 tk2 p2 λb o nb ns eb=>k2 b o nb ns ?_⟩
 ·exact (yc _ _ (λz:S=b=>nS (z ▸ fb))).trans eb
 ·exact (yc _ _ (zA ns)).trans (kp b o nb eb)
def Goes (prog:xA)(w:xQ)(A:yh)(Q:xb->xh->Prop)(it:xb)(s:xh):Prop:=∃I fp wr n P St bt,it = .ref I/\Walks prog w A.in1 I fp wr n P St/\St 0 s.heap/\(∀b∈fp,b<s.heap.objs.size)/\0<n/\Cmp prog w A.in1 P St bt ∧
 ∀v h' tk,P (argBest bt (n-1)) v->(∀b o,b∉wr->s.heap.get? b=some o->h'.get? b=some o)->Q v { s with heap:=h',toks:=tk }
theorem call2 {s:xh}{a b:xb}{Q:xb->xh->Prop}(h:xM (xT prog w) A.in1 (pyIter (.ref s.heap.objs.size)) (Goes prog w A Q) E { s with heap:=s.heap.push { cls :=.type "tuple",data :=.seq #[a,b] } }):xM (xT prog w) A (call (.builtin "min") [a,b]) Q E s:=by
 have nm:(toString "min" ++ toString ".loop" : String) = "min.loop" := by decide
 refine call_function_tree PySem.F.kind_min PySem.F.plain_min PySem.F.entry_min (PySem.F.args_min2 _ _) ?_
 show xM _ _ (Builtin.Builtins.bindParams "min" ["key", "default"] 0 ⟨[],[]⟩ >>= _) _ _ s
 refine wZ (D8 (a:=[none,none]) rfl ?_)
 show xM _ _ (newTuple [a,b] >>= _) _ _ s
 refine wZ (yl ?_)
 refine wZ (zX h (λit s2 g =>?_) λ_ _ e=>e)
 obtain ⟨I,fp,wr,n,P,St,bt,rfl,W,st,hf,hn,C,hq⟩:=g
 refine wZ (yl ?_)
 rw[nm]
 refine xn ⟨zw yX _,first W C (S:=s2.heap.objs.size) (λhm=>yt _ (hf _ hm)) hn (W.frame _ _ _ st λb _ o e=>wX _ e) (xr _ rfl) λv h' tk pv kp =>?_⟩
 exact hq v h' tk pv λb o nb e=>kp b o nb (xF (xt e)) (wX _ e)
theorem best (g:Nat->List Int):∀k,(argBest (λi j=>HT.lexLt (g i) (g j)) k<=k)/\∀j,j<=k->HT.lexLt (g j) (g (argBest (λi j=>HT.lexLt (g i) (g j)) k))=false
 | 0=>⟨xg _,λj hj=>by rw[Nat.le_zero.mp hj];exact Srt.lex_irrefl _⟩
 | k+1=>by
  obtain ⟨l,ih⟩:=best g k
  by_cases hb:HT.lexLt (g (k+1)) (g (argBest (λi j=>HT.lexLt (g i) (g j)) k))=true
  ·have ea:argBest (λi j=>HT.lexLt (g i) (g j)) (k+1)=k+1:=by simp only[argBest,hb,if_true]
   rw[ea]
   refine ⟨xg _,λj hj =>?_⟩
   by_cases e:j=k+1
   ·rw[e];exact Srt.lex_irrefl _
   ·refine zH.mpr λz =>?_
    have:=ih j (by lia)
    rw[Srt.lex_trans _ _ _ z hb] at this
    cases this
  ·have ea:argBest (λi j=>HT.lexLt (g i) (g j)) (k+1)=argBest (λi j=>HT.lexLt (g i) (g j)) k:=by simp only[argBest,hb];rfl
   rw[ea]
   refine ⟨by lia,λj hj =>?_⟩
   by_cases e:j=k+1
   ·rw[e];exact zH.mpr hb
   ·exact ih j (by lia)
end
end L2.MnT
namespace L2
open PySem PySem.Spec PyProof.Rows
section
variable  {X:Cx}
end
open PySem PySem.Spec PyProof.Rows
section
variable  {X:Cx}
theorem nH (hc:X.calm=true):bK X (.builtin "min") (λxs H Q=>∃(a:Addr) (ns:List Int),xs=[.ref a]/\SqT X.K H a (ns.map V.int)/\ns≠[]/\∀M:Int,M∈ns->(∀b∈ns,M<=b)->Q (.int M) H):=by
 intro pins s σ H xs us Q I r h
 obtain ⟨a,ns,rfl,hS,hne,q⟩:=h
 obtain ⟨u,rfl,ru⟩:=vals1 r
 cases (show u=xB a from ru)
 obtain ⟨its,r1,p1,_⟩:=I.tuple hS
 obtain ⟨ps,e2,e3⟩:=cp (intsAre_of r1)
 have ei:its.toArray=zz ps.toArray:=by rw[e2];simp[zz]
 have hT:s.heap.IsTuple a (zz ps.toArray):=by
  obtain ⟨o,ho,hc',n,hd⟩:=p1
  exact ⟨o,ho,hc',n,by rw[<- ei];exact hd⟩
 have hz:ps.toArray.size=ns.length:=by rw[xc, <- e3,wW]
 have hp:0<ns.length:=yK.mpr hne
 have ht:ps.toArray.toList.map (·.1)=ns:=e3
 have hal:a<s.heap.objs.size:=by obtain ⟨o,ho,_⟩:=p1;exact xt ho
 refine call_min_walk (zi hT ?_)
 refine ⟨_,[_,a],[_],_,_,_,_,rfl,C8 (A:=X.A.in1) (I.ok.hd hc) _ a (xF hal) (zz ps.toArray),⟨⟨_,xr _ rfl,rfl,rfl⟩,hT.push _⟩,λc hc' =>?_,by simp only[zz,yE];lia,CmpOf.ints_lt (numAt ps.toArray) (λ_ _=>Cn),λv h' tk hv hk =>?_⟩
 ·show c<(s.heap.push _).objs.size
  rw[zG]
  rcases xK.mp hc' with rfl | hc'
  ·exact y6 _
  ·rw[xo.mp hc'];exact yB hal
 ·have k:∀b o,s.heap.get? b=some o->h'.get? b=some o:=λb o e=>hk b o (λhm=>by
   have:=xt e
   rw[xo.mp hm] at this
   exact yt _ this) (wX _ e)
  have hsz:(zz ps.toArray).size=ns.length:=by simp only[zz,yE];exact hz
  rw[hsz] at hv
  obtain ⟨t,rfl⟩:=Cn hv
  obtain ⟨h1,h2⟩:=argBest_lt (numAt ps.toArray) (ns.length-1)
  refine ⟨.int _,H,I.kept k,⟨_,rfl⟩,q _ ?_ λb hb =>?_⟩
  ·rw[A3,ht];exact nF (by lia)
  ·obtain ⟨j,hj,rfl⟩:=nG hb
   have:=h2 j (by lia)
   rw[A3,A3,ht] at this
   rw[A3,ht]
   exact this
end
end L2
namespace HT
open PySem PyProof.Rows
section
variable  {prog:xA}{w:xQ}{A:yh}{E:xb->xh->Prop}{s:xh}
theorem nJ (n:Nat):Builtin.Slice.sliceAdjust none none (-1) (n:Int)=((n:Int)-1, -1):=by
 unfold Builtin.Slice.sliceAdjust
 simp
theorem nK (n:Nat):Builtin.Slice.slicePlaces ((n:Int)-1) (-1) (-1)=n:=by
 unfold Builtin.Slice.slicePlaces
 simp
 lia
theorem gY {sl:Addr}{t:Tok}{n:Nat}{Q:Int×Int×Nat->xh->Prop}(hs:s.heap.IsSliceOf sl .none .none (.int (-1) t))
  (h:Q ((n:Int)-1, -1,n) s):xM (xT prog w) A (Builtin.Slice.sliceApplied (.ref sl) (pure (n:Int))) Q E s:=by
 obtain ⟨os,hos,hcs,hds⟩:=id hs
 unfold Builtin.Slice.sliceApplied Builtin.Slice.sliceFields
 refine wZ (wZ (zR hos hds (x :=.none) rfl (wZ (zR hos hds (x :=.none) rfl (wZ (zR hos hds (x :=.int (-1) t) rfl (xn ?_)))))))
 refine wZ (slicePart_int ?_)
 show xM _ _ (if ((-1:Int) == 0)=true then _ else _) _ _ s
 rw[if_neg (by decide)]
 refine wZ (B1 (wZ (B1 (wZ (xn ?_)))))
 show xM _ _ (match Builtin.Slice.sliceAdjust none none (-1) (n:Int) with | (lo,hi)=>pure (lo,(-1:Int),Builtin.Slice.slicePlaces lo hi (-1))) _ _ s
 rw[nJ n]
 show xM _ _ (pure ((n:Int)-1,(-1:Int),Builtin.Slice.slicePlaces ((n:Int)-1) (-1) (-1))) _ _ s
 rw[nK]
 exact xn h
theorem wN (xs:List xb):((yj xs.length).filterMap λ(m:Nat)=>xs.toArray[(((xs.length:Int)-1)+(m:Int)*(-1)).toNat]?).toArray=xs.reverse.toArray:=by
 congr 1
 have h1:∀k∈yj xs.length,xs.toArray[(((xs.length:Int)-1)+(k:Int)*(-1)).toNat]? = some (xs.reverse.getD k .none):=λk hk=>by
  have hk':=yf.mp hk
  have:(((xs.length:Int)-1)+(k:Int)*(-1)).toNat=xs.length-1-k:=by omega
  rw[this,yi,xu,CL hk',xp (show xs.length-1-k<xs.length by omega)]
  rfl
 rw[L2.kn h1]
 apply DZ
 ·rw[wW,y9,z8]
 ·intro n h2 h3
  rw[List.getElem_map,List.getElem_range,xu,xp h3]
  rfl
theorem gB {t sl:Addr}{its:List xb}{tk:Tok}{Q:xb->xh->Prop}(ht:IsTup s.heap t its.toArray)(hs:s.heap.IsSliceOf sl .none .none (.int (-1) tk))
  (h:Q (.ref s.heap.objs.size) { s with heap:=s.heap.push { cls :=.type "tuple",data :=.seq its.reverse.toArray } })
  (hsz:its.length<=xf):xM (xT prog w) A (getItem (.ref t) (.ref sl)) Q E s:=by
 have htake:sizeOk (.seq its.reverse.toArray):=by
  show its.reverse.toArray.size<=xf
  rw[xc,z8];exact hsz
 obtain ⟨os,hos,hcs,hds⟩:=id hs
 have hTs:s.TypeIs (.ref sl) "slice" :=⟨os,hos,hcs⟩
 unfold getItem
 try with_reducible refine yL ?_
 first | refine wZ (xn ?_) | skip
 refine wZ (B8 ht.typeIs (by decide) ?_)
 refine wZ (yM (name:=Str.ofString "__getitem__") ht.typeIs yb
  (yr yb ht.typeIs entry_tuple_getitem ?_ (BM _ _)))
 show xM _ _ (Builtin.Tuple.tupleItemsOf (.ref t) >>= _) _ _ s
 refine wZ (Dx ht ?_)
 refine wZ (Aq hTs ?_)
 rw[if_pos (by decide)]
 refine wZ (gY hs ?_)
 have hno:¬ (((((its.toArray.size:Nat):Int)-1) == 0 && (-1:Int) == 1 && its.toArray.size == its.toArray.size)=true):=by
  intro q
  rw[yz,yz] at q
  have:=q.1.2
  revert this
  decide
 show xM _ _ (if ((((its.toArray.size:Nat):Int)-1) == 0 && (-1:Int) == 1 && its.toArray.size == its.toArray.size)=true then _ else _) _ _ s
 rw[if_neg hno,xc,wN]
 first
  | exact wZ (m:=Builtin.Tuple.tupleExact _) (yl (xn ⟨_,rfl,xn h⟩) htake)
  | exact wZ (m:=Builtin.Tuple.tupleExact _) (yl (wZ (xn (xn ⟨_,rfl,xn h⟩))) htake)
  | exact wZ (wZ (m:=Builtin.Tuple.tupleExact _) (yl (xn (xn ⟨_,rfl,xn h⟩)) htake))
  | exact wZ (wZ (m:=Builtin.Tuple.tupleExact _) (yl (xn ⟨_,rfl,xn h⟩) htake))
end
end HT
namespace L2
open PySem PySem.Spec PyProof.Rows
def wO (K:wY)(te:TE):TE:=λσ H Q=>te σ H λx H1=>∃a xs,x = .ref a/\SqT K H1 a xs/\∀p,H1 p=none->Q (.ref p) (upd H1 p (.tup xs.reverse))
theorem t8 {X:Cx}{e:Expr}{te:TE}{j:Nat}{p1 p2 p3 pos:Pos}(he:PE X e te):PE X (.Subscript e (.Slice none none (some (.UnaryOp .USub (.Constant (.int 1) j p1) p3)) p2) pos) (wO X.K te):=by
 intro pins s σ H Q I h
 refine Subscript_ (thn (he pins s σ H _ I h) λv s1 ⟨x,H1,I1,r1,q1⟩ =>?_)
 obtain ⟨a,xs,rfl,hx,q⟩:=q1
 cases r1
 refine wpAny_Slice ?_
 rw[Dy]
 refine xn (xn ?_)
 rw[evalPart_some]
 have un:PE X (.UnaryOp .USub (.Constant (.int 1) j p1) p3) _:=oq kG ag
 refine thn (un pins s1 σ H1 (λy H'=>y = .int (-1)/\H'=H1) I1 ⟨1,rfl,rfl,rfl⟩) λu s2 ⟨y,H2,I2,r2,ey,eH⟩ =>?_
 subst ey eH
 obtain ⟨t,rfl⟩:=r2
 have I4:Inv X pins σ H2 { s2 with heap:=s2.heap.push { cls :=.type "slice",data :=.fields #[.none,.none,.int (-1) t] } }:=I2.kept (t':=s2.toks) λb ob q=>wX _ q
 obtain ⟨its,r,ht,hz⟩:=I4.tuple hx
 have hlen:=r.length
 show xM (xT X.prog X.w) X.A (subscriptTail e (.Slice none none (some (.UnaryOp .USub (.Constant (.int 1) j p1) p3)) p2) (.ref a) (.ref s2.heap.objs.size)) (EP X pins σ Q) X.xe { s2 with heap:=s2.heap.push { cls :=.type "slice",data :=.fields #[.none,.none,.int (-1) t] } }
 refine tail_any (ops:=[.ref a,.ref s2.heap.objs.size]) ht.typeIs yb.lookup ?_ (by with_unfolding_all rfl)
 refine HT.gB ht (Dh ..) ?_ (by lia)
 refine ⟨.ref _,_,I4.laid (t':=s2.toks) (o :=.tup xs.reverse) (λb ob q=>wX _ q) (xg _) ?_,rfl,q _ (I4.hok.fresh (xg _))⟩
 exact ⟨by rw[z8];exact hz,_,Vals.reverse r,cV.new _ _⟩
open PySem PySem.Spec PyProof.Rows
section
variable  {X:Cx}
end
theorem nL {X:Cx}{k:Nat}(hr:cq k X.A):OpR X (yI .NotEq) (λx y H Q=>∃(a b:Addr) (xs:List V),x = .ref a/\y = .ref b/\H a=some (.lst xs)/\H b=some (.lst [])/\(xs=[]->Q (.bl false) H)/\(xs≠[]->Q (.bl true) H)):=by
 intro pins s σ H x y v u Q I rx ry h
 obtain ⟨a,b,xs,rfl,rfl,h1,h2,q0,q1⟩:=h
 cases (show v=xB a from rx)
 cases (show u=xB b from ry)
 obtain ⟨i1,r1,p1,_⟩:=I.list (SqL.of (K:=X.K) h1)
 obtain ⟨i2,r2,p2,_⟩:=I.list (SqL.of (K:=X.K) h2)
 have l1:=r1.length
 have l2:=r2.length
 rw[zV] at l2
 have hu:=hr.un
 have hu1:X.A.units<cLine:=by lia
 by_cases c:xs=[]
 ·subst c
  rw[zV] at l1
  have R:=Du (A:=X.A) (e:=λ_=>true) p1.isList p2.isList (by rw[xc,xc];lia) hu1 (λj g1 _=>by rw[xc] at g1;lia)
  rw[xc, <- l1] at R
  exact R _ _ _ _ ⟨.bl false,H,I,rfl,q0 rfl⟩
 ·have:=yK.mpr c
  exact SeqAt.RcNeAt.lists_lengths (A:=X.A) p1.isList p2.isList (by simp;lia) hu1 _ _ _ _ ⟨.bl true,H,I,rfl,q1 c⟩
open PySem PySem.Spec PyProof.Rows
def jG (P:xA)(w:xQ)(K:wY)(mg:Str->Option xb)(base:Heap)(k:Nat)(f:Addr)(ps:List Str)(sp:Sp):Prop:=∃fd,bG P w K mg base CX0 k f fd ps sp/\PySem.W.keepIn K (.ref f)=true/\Binds K fd ps []
theorem Cal.val {P:xA}{w:xQ}{K:wY}{mg:Str->Option xb}{base:Heap}{k:Nat}{x:Str}{ps:List Str}{sp:Sp}(c:Cal P w K mg base k x ps sp):∃f,mg x=some (.ref f)/\jG P w K mg base k f ps sp:=by
 obtain ⟨f,fd,F,m,kp,b⟩:=c.ex
 exact ⟨f,m,fd,F,kp,b⟩
def vK (X:Cx)(k:Nat)(tf:TE)(t:TA):TE:=λσ H Q=>tf σ H λx H1=>∃f ps sp,x = .ref f/\jG X.prog X.w X.K X.mg X.base k f ps sp/\t σ H1 λvs H2=>sp vs H2 Q E0
theorem mz {X:Cx}(k:Nat){j:Nat}{x:Str}{e:Expr}{es:List Expr}{tf:TE}{t:TA}{p pos:Pos}(hv:PE X (.Name x p) tf)(hr:cq j X.A)(hj:k<=j)(ha:PA X (e :: es) t)
  (he:yO (e :: es) X.env=(false,eval e X.env) :: yO es X.env:=by rfl) (hpl:(C4 pos (yO es X.env)).any (·.1)=false:=by rfl) :
  PE X (.Call (.Name x p) (e :: es) [] pos) (vK X k tf t):=by
 intro pins s σ H Q I h
 refine Aj (thn (hv pins s σ H _ I h) λv s1 p1 =>?_)
 obtain ⟨_,H1,I1,r1,f,ps,sp,rfl,C,q⟩:=p1
 cases r1
 obtain ⟨fd,F,kp,b⟩:=C
 refine Dg (h₀:=X.base) I1.ok.mod.kin kp (thn (ha pos pins s1 σ H1 _ I1 q) λus s2 p2 =>?_) he hpl
 obtain ⟨vs,H2,I2,r,q2⟩:=p2
 exact ⟨I2.kIn,q8 F (hr.mono hj) b .nil uF I2 r (by rw[yu];exact q2)⟩
open PySem PySem.Spec PyProof.Rows
section
variable  {X:Cx}
theorem cR {k:Nat}(hr:cq k X.A):OpR X (yI .Eq) (λx y H Q=>∃a b xs ys,x = .ref a/\y = .ref b/\SqL X.K H a xs/\SqL X.K H b ys/\((xs.length≠ys.length/\Q (.bl false) H)\/(Paired (EqS X.K H 20) xs ys/\Q (.bl true) H))):=by
 intro pins s σ H x y v u Q I rx ry h
 obtain ⟨a,b,xs,ys,rfl,rfl,h1,h2,h3⟩:=h
 rcases h3 with d | ⟨p,q⟩
 ·exact vJ hr pins s σ H _ _ v u Q I rx ry ⟨a,b,xs,ys,rfl,rfl,h1,h2,.inl d⟩
 cases (show v=xB a from rx)
 cases (show u=xB b from ry)
 obtain ⟨us,r1,p1,_⟩:=I.list h1
 obtain ⟨vs,r2,p2,_⟩:=I.list h2
 have un:=hr.un
 have R:=Bf (A:=X.A) (e:=λ_=>true) p1.isList p2.isList (by rw[xc,xc, <- r1.length, <- r2.length,zu p]) (by lia) (dJ p r1 r2 λx y u v z1 z2 z3=>kT I 20 _ x y u v (by show X.A.units+1+_<cLine;lia) z1 z2 z3)
 rw[all_true] at R
 exact R _ _ _ _ ⟨.bl true,H,I,rfl,q⟩
theorem kU {k:Nat}(hr:cq k X.A):OpR X (yI .NotEq) (λx y H Q=>∃a b xs ys,x = .ref a/\y = .ref b/\SqL X.K H a xs/\SqL X.K H b ys/\Paired (EqS X.K H 20) xs ys/\Q (.bl false) H):=by
 intro pins s σ H x y v u Q I rx ry h
 obtain ⟨a,b,xs,ys,rfl,rfl,h1,h2,p,q⟩:=h
 cases (show v=xB a from rx)
 cases (show u=xB b from ry)
 obtain ⟨us,r1,p1,_⟩:=I.list h1
 obtain ⟨vs,r2,p2,_⟩:=I.list h2
 have un:=hr.un
 have R:=Du (A:=X.A) (e:=λ_=>true) p1.isList p2.isList (by rw[xc,xc, <- r1.length, <- r2.length,zu p]) (by lia) (dJ p r1 r2 λx y u v z1 z2 z3=>kT I 20 _ x y u v (by show X.A.units+1+_<cLine;lia) z1 z2 z3)
 rw[all_true] at R
 exact R _ _ _ _ ⟨.bl false,H,I,rfl,q⟩
def wQ (K:wY):R2:=λx y H Q=>∃p xs i v,x = .ref p/\y = .int i/\(SqL K H p xs\/SqT K H p xs)/\atI xs i=some v/\Q v H
theorem vL:IxR X (wQ X.K):=by
 intro value slice pins s σ H x y v u Q I rx ry h hs
 obtain ⟨p,xs,i,z,e1,e2,hq | hq,he,q⟩:=h
 ·exact bD value slice pins s σ H x y v u Q I rx ry ⟨p,xs,i,z,e1,e2,hq,he,q⟩ hs
 ·exact av value slice pins s σ H x y v u Q I rx ry ⟨p,xs,i,z,e1,e2,hq,he,q⟩ hs
theorem oR {K:wY}(h:X.K=K:=by rfl):IxR X (wQ K):=by subst h;exact vL
theorem qw:OpR X (yI .NotIn) (λx y H Q=>∃(i n:Int) (a:Addr),x = .int i/\y = .ref a/\H a=some (.rng 0 n)/\Q (.bl (!decide (0<=i/\i<n))) H):=by
  intro pins s σ H x y v u Q I rx ry h
  obtain ⟨i,n,a,rfl,rfl,ea,q⟩:=h
  obtain ⟨tk,rfl⟩:=rx
  cases (show u=xB a from ry)
  obtain ⟨t1,t2,t3,ho⟩:=I.hok a _ ea
  have hT:s.TypeIs (.ref a) "range" :=⟨_,ho,rfl⟩
  have hp:(Builtin.Range.rangePlace? 0 n 1 i).isSome=decide (0<=i/\i<n):=by
    unfold Builtin.Range.rangePlace?
    by_cases a0:0<=i <;> by_cases b0:i<n <;> simp[a0,b0,Int.emod_one]
  show xM _ _ (do return Value.bool (!(← contains (.ref a) (.int i tk)))) _ _ s
  refine wZ ?_
  unfold contains
  try with_reducible refine yL ?_
  refine wZ (wpAny_specialOf hT Bd.lookup ?_)
  show xM _ _ (if (some (Value.builtin "range.__contains__") == some zc)=true then _ else _) _ _ s
  rw[if_neg (by rw[beq_builtin_none];exact xw)]
  refine wZ (wpAny_callSpecialUnlessNone?_slot (name:=Str.ofString "__contains__") hT Bd
    (yr Bd hT F.entry_range_contains ?_ (F.args_range_contains_2 _ _)))
  rw[<- hp] at q
  obtain ⟨hq,g,d,tks,os⟩:=s
  wp_walk
  exact ⟨_,rfl,yV (xn ⟨.bl _,H,I,rfl,q⟩)⟩
end
end L2
namespace L2.MnW
open PySem PyProof.Rows PySem.SeqAt PySem.MeetsSeq PySem.MeetsSeq2 PySem.MeetsSeq3
open PySem.AutoSeq1 (wpAny_loadPart')
def ob (c:String)(dd:Option Addr)(xs:Array xb)(n:Nat)(sl:Array (Option xb)):Obj:={ cls :=.type c,dict:=dd,data :=.seq xs n,slots:=sl }
section
variable  {prog:xA}{w:xQ}{A:yh}{s:xh}
end
end L2.MnW
namespace L2
open PySem PySem.Spec PyProof.Rows
end L2
namespace L2.MnR
open PySem PyProof.Rows PySem.SeqAt PySem.MeetsSeq PySem.MeetsSeq2 PySem.MeetsSeq3
open PySem.AutoSeq1 (wpAny_loadPart')
abbrev Rs:=Option Int
def its:Rs->List V
 | none=>[.str "never"]
 | some n=>[.str "least",.int n]
def lt:Rs->Rs->Bool
 | some a,some b=>decide (a<b)
 | some _,none=>true
 | none,_=>false
theorem less (l b:Addr)(xs ys:Array xb)(n k:Nat)(dd ee:Option Addr)(sl tl:Array (Option xb))(x y:Rs)(hx:Vals (its x) xs.toList)(hy:Vals (its y) ys.toList) :
  Meets (Builtin.«tuple.__lt__» ⟨[.ref l,.ref b],[]⟩) (λA R s=>s.heap.get? l=some (MnW.ob "tuple" dd xs n sl)/\s.heap.get? b=some (MnW.ob "tuple" ee ys k tl)/\R (.ok (.ret (.bool (lt x y)))) s) :=
 .of_wp λprog w A R s h=>by
  obtain ⟨hp,g,d,tk,os⟩:=s
  obtain ⟨hl,hb,h⟩:=h
  unfold MnW.ob at hl hb
  obtain ⟨xs⟩:=xs
  obtain ⟨ys⟩:=ys
  have f2:=AutoSeq1.sub_tuple_tuple
  have es:∀(a:Str) (t:Tok) (b:Str) (u:Tok),EqAt A.in1 ⟨hp,g,d,tk,os⟩ (.str a t) (.str b u) (a == b):=λa t b u=>EqAt.str_str a t b u
  have ls':∀(a:Str) (t:Tok) (b:Str) (u:Tok) (E Q:xb->xh->Prop),Q (.bool (a.cps.toList<b.cps.toList)) ⟨hp,g,d,tk,os⟩->xM (xT prog w) A.in1 (richCompare .Lt (.str a t) (.str b u)) Q E ⟨hp,g,d,tk,os⟩:=λa t b u E Q h=>lt_str h
  cases x with
  | none =>
   obtain ⟨u1,e1,r1⟩:=vals1 hx
   obtain ⟨t1,rfl⟩:=r1
   cases (show xs=[Value.str "never" t1] from e1)
   cases y with
   | none =>
    obtain ⟨u2,e2,r2⟩:=vals1 hy
    obtain ⟨t2,rfl⟩:=r2
    cases (show ys=[Value.str "never" t2] from e2)
    have e0:=es "never" t1 "never" t2
    rw[show (("never" : Str) == "never")=true by decide +kernel] at e0
    wp_walk using wpAny_loadPart' hl,wpAny_loadPart' hb,Bk _ (λrest q s'=>q.1=none/\s'=⟨hp,g,d,tk,os⟩/\(rest=[(Value.str "never" t1,Value.str "never" t2)]\/rest=[])) _
    case turn =>
     rintro ⟨y,x⟩ rest q s' ⟨q0,rfl,z | z⟩
     ·injection z with z1 z2
      injection z1 with z3 z4
      subst z3 z4 z2
      refine wZ (e0 prog w _ _ ?_)
      wp_walk
      exact ⟨rfl,rfl,.inr rfl⟩
     ·cases z
    case fin =>
     rintro ⟨b1,b2⟩ s' ⟨q0,rfl,z⟩
     simp only at q0
     subst q0
     wp_walk
     exact ⟨_,rfl,h⟩
    case h=>exact ⟨rfl,rfl,.inl rfl⟩
   | some m =>
    obtain ⟨u2,u3,e2,r2,r3⟩:=vals2 hy
    obtain ⟨t2,rfl⟩:=r2
    obtain ⟨t3,rfl⟩:=r3
    cases (show ys=[Value.str "least" t2,yJ m t3] from e2)
    have e0:=es "never" t1 "least" t2
    rw[show (("never" : Str) == "least")=false by decide +kernel] at e0
    wp_walk using wpAny_loadPart' hl,wpAny_loadPart' hb,Bk _ (λrest q s'=>q.1=none/\s'=⟨hp,g,d,tk,os⟩/\(rest=[(Value.str "never" t1,Value.str "least" t2)])) _
    case turn =>
     rintro ⟨y,x⟩ rest q s' ⟨q0,rfl,z⟩
     injection z with z1 z2
     injection z1 with z3 z4
     subst z3 z4 z2
     refine wZ (e0 prog w _ _ ?_)
     have lt:=ls' "never" t1 "least" t2
     wp_walk using lt
     exact ⟨_,rfl,h⟩
    case fin =>
     rintro ⟨b1,b2⟩ s' ⟨q0,rfl,z⟩
     cases z
    case h=>exact ⟨rfl,rfl,rfl⟩
  | some n =>
   obtain ⟨u1,u0,e1,r1,r0⟩:=vals2 hx
   obtain ⟨t1,rfl⟩:=r1
   obtain ⟨t0,rfl⟩:=r0
   cases (show xs=[Value.str "least" t1,yJ n t0] from e1)
   cases y with
   | none =>
    obtain ⟨u2,e2,r2⟩:=vals1 hy
    obtain ⟨t2,rfl⟩:=r2
    cases (show ys=[Value.str "never" t2] from e2)
    have e0:=es "least" t1 "never" t2
    rw[show (("least" : Str) == "never")=false by decide +kernel] at e0
    wp_walk using wpAny_loadPart' hl,wpAny_loadPart' hb,Bk _ (λrest q s'=>q.1=none/\s'=⟨hp,g,d,tk,os⟩/\(rest=[(Value.str "least" t1,Value.str "never" t2)])) _
    case turn =>
     rintro ⟨y,x⟩ rest q s' ⟨q0,rfl,z⟩
     injection z with z1 z2
     injection z1 with z3 z4
     subst z3 z4 z2
     refine wZ (e0 prog w _ _ ?_)
     have lt:=ls' "least" t1 "never" t2
     wp_walk using lt
     exact ⟨_,rfl,h⟩
    case fin =>
     rintro ⟨b1,b2⟩ s' ⟨q0,rfl,z⟩
     cases z
    case h=>exact ⟨rfl,rfl,rfl⟩
   | some m =>
    obtain ⟨u2,u3,e2,r2,r3⟩:=vals2 hy
    obtain ⟨t2,rfl⟩:=r2
    obtain ⟨t3,rfl⟩:=r3
    cases (show ys=[Value.str "least" t2,yJ m t3] from e2)
    have e0:=es "least" t1 "least" t2
    rw[show (("least" : Str) == "least")=true by decide +kernel] at e0
    have e3:EqAt A.in1 ⟨hp,g,d,tk,os⟩ (.int n t0) (.int m t3) (n == m):=EqAt.int_int n t0 m t3
    have li:=HT.lP A.in1 ⟨hp,g,d,tk,os⟩ n t0 m t3 prog w
    wp_walk using wpAny_loadPart' hl,wpAny_loadPart' hb,Bk _ (λrest q s'=>q.1=none/\s'=⟨hp,g,d,tk,os⟩/\(rest=[(Value.str "least" t1,Value.str "least" t2),(.int n t0,.int m t3)]\/rest=[(yJ n t0,yJ m t3)]\/(n=m/\rest=[]))) _
    case turn =>
     rintro ⟨y,x⟩ rest q s' ⟨q0,rfl,z | z | z⟩
     ·injection z with z1 z2
      injection z1 with z3 z4
      subst z3 z4 z2
      refine wZ (e0 prog w _ _ ?_)
      wp_walk
      exact ⟨rfl,rfl,.inr (.inl rfl)⟩
     ·injection z with z1 z2
      injection z1 with z3 z4
      subst z3 z4 z2
      refine wZ (e3 prog w _ _ ?_)
      by_cases c:n=m
      ·rw[show (n == m)=true by simpa using c]
       wp_walk
       exact ⟨rfl,rfl,.inr (.inr ⟨c,rfl⟩)⟩
      ·rw[show (n == m)=false by simpa using c]
       wp_walk using li
       exact ⟨_,rfl,h⟩
     ·cases z.2
    case fin =>
     rintro ⟨b1,b2⟩ s' ⟨q0,rfl,z | z | z⟩
     ·cases z
     ·cases z
     ·simp only at q0
      subst q0
      have h:R (.ok (.ret (.bool (decide (n<m))))) ⟨hp,g,d,tk,os⟩:=h
      rw[decide_eq_false (show ¬ n<m by lia)] at h
      wp_walk
      exact ⟨_,rfl,h⟩
    case h=>exact ⟨rfl,rfl,.inl rfl⟩
def TR (h:Heap)(t:Addr×Rs):Prop:=∃xs n dd sl,h.get? t.1=some (MnW.ob "tuple" dd xs n sl)/\Vals (its t.2) xs.toList
theorem TR.at {h h':Heap}{t:Addr×Rs}(x:TR h t)(e:∀o,h.get? t.1=some o->h'.get? t.1=some o):TR h' t:=let ⟨xs,n,dd,sl,g,v⟩:=x;⟨xs,n,dd,sl,e _ g,v⟩
section
variable  {prog:xA}{w:xQ}{A:yh}{I:Addr}{fp wr:List Addr}{n:Nat}{P:Nat->xb->Prop}{St:Nat->Heap->Prop}
theorem more (W:Walks prog w A I fp wr n P St)(ts:List (Addr×Rs))(nw:∀t∈ts,t.1∉wr):Walks prog w A I (fp++ts.map (·.1)) wr n P (λi h=>St i h/\∀t∈ts,TR h t) where
 sub:=λb hb=>yQ _ (W.sub b hb)
 frame:=λi h h' x hk=>⟨W.frame i h h' x.1 λb hb o e=>hk b (yQ _ hb) o e,λt ht=>(x.2 t ht).at (hk t.1 (xS _ (zr (f:=(·.1)) ht)))⟩
 item:=λi s Q E hi x hQ=>W.item i s Q E hi x.1 λv h' tk pv st' kp=>hQ v h' tk pv ⟨st',λt ht=>(x.2 t ht).at λo=>kp t.1 o (nw t ht)⟩ kp
 done:=λs Q E x hQ=>W.done s Q E x.1 hQ
 self:=λi s Q E x hQ=>W.self i s Q E x.1 hQ
theorem cmp (ts:List (Addr×Rs))(hu:A.units<cLine)(hP:∀i v,P i v->∃t,ts[i]? = some t/\v = .ref t.1):MnT.Cmp prog w A P (λi h=>St i h/\∀t∈ts,TR h t) (λi j=>lt (ts.getD i (0,none)).2 (ts.getD j (0,none)).2):=by
 intro k i j x y s Q E st hx hy h
 obtain ⟨t,et,rfl⟩:=hP i x hx
 obtain ⟨u,eu,rfl⟩:=hP j y hy
 obtain ⟨xs,n,dd,sl,g,v⟩:=st.2 t (xE et)
 obtain ⟨ys,k',ee,tl,g',v'⟩:=st.2 u (xE eu)
 dsimp only at h
 rw[xu,xu,et,eu] at h
 exact Ag (op :=.Lt) ⟨_,g,rfl⟩ ⟨_,g',rfl⟩ PySem.F.slot_tuple_lt PySem.F.entry_tuple_lt (PySem.F.args_tuple_lt_2 _ _) (less t.1 u.1 xs ys n k' dd ee sl tl t.2 u.2 v v')
  ⟨g,g',show Value.bool _≠Value.notImplemented/\Q _ s from ⟨(λx=>nomatch x),h⟩⟩ hu
end
end L2.MnR
namespace L2
open PySem PySem.Spec PyProof.Rows
theorem nM {X:Cx}(hc:X.calm=true)(hu:X.A.units+8<cLine):bK X (.builtin "min") (λxs H Q=>∃(a b:Addr) (x y:MnR.Rs),xs=[.ref a,.ref b]/\SqT X.K H a (MnR.its x)/\SqT X.K H b (MnR.its y)/\(MnR.lt y x=true->Q (.ref b) H)/\(MnR.lt y x=false->Q (.ref a) H)):=by
 intro pins s σ H xs us Q I r h
 obtain ⟨a,b,x,y,rfl,ha,hb,q1,q2⟩:=h
 obtain ⟨u,v,rfl,ru,rv⟩:=vals2 r
 cases (show u=xB a from ru)
 cases (show v=xB b from rv)
 have TRs:∀t∈[(a,x),(b,y)],MnR.TR s.heap t:=λt ht=>by
  have one:∀{c:Addr} {z:MnR.Rs},SqT X.K H c (MnR.its z)->MnR.TR s.heap (c,z):=λ{c z} hz=>by
   obtain ⟨i2,r2,⟨⟨c1,d1,k1,s1⟩,g1,e1,n1,f1⟩,_⟩:=I.tuple hz
   simp only at e1 f1
   subst e1 f1
   exact ⟨_,n1,d1,s1,g1,r2⟩
  rcases xK.mp ht with rfl | ht
  ·exact one ha
  ·rw[xo.mp ht];exact one hb
 have hlt:∀t∈[(a,x),(b,y)],t.1<s.heap.objs.size:=λt ht=>by
  obtain ⟨_,_,_,_,g,_⟩:=TRs t ht
  exact xt g
 have hT:(s.heap.push { cls :=.type "tuple",data :=.seq #[.ref a,.ref b] }).IsTuple s.heap.objs.size #[.ref a,.ref b]:=⟨_,xr _ rfl,rfl,0,rfl⟩
 have hz:(s.heap.push { cls :=.type "tuple",data :=.seq #[.ref a,.ref b] }).objs.size=s.heap.objs.size+1:=zG ..
 have at_:∀(i:Nat) (v:xb),(#[.ref a,.ref b]:Array xb)[i]? = some v->∃t:Addr×MnR.Rs,[(a,x),(b,y)][i]? = some t/\v=xB t.1:=λi v hv=>by
  match i,hv with
  | 0,hv=>exact ⟨_,rfl,(x9 hv).symm⟩
  | 1,hv=>exact ⟨_,rfl,(x9 hv).symm⟩
  | i+2,hv=>simp at hv
 refine MnT.call2 (zi hT ?_)
 refine ⟨_,_,_,_,_,_,_,rfl,MnR.more (C8 (A:=X.A.in1) (I.ok.hd hc) _ s.heap.objs.size (by rw[hz];exact xF (y6 _)) #[.ref a,.ref b]) [(a,x),(b,y)] (λt ht hm =>?_),⟨⟨⟨_,xr _ rfl,rfl,rfl⟩,hT.push _⟩,λt ht=>(TRs t ht).at λo e=>wX _ (wX _ e)⟩,λc hc' =>?_,Nat.zero_lt_two,MnR.cmp [(a,x),(b,y)] ?_ at_,λv h' tk pv kp =>?_⟩
 ·have:=hlt t ht
  rw[xo.mp hm,hz] at this
  exact yt _ (As this)
 ·show c<((s.heap.push _).push _).objs.size
  rw[zG,hz]
  rcases xx.mp hc' with hc' | hc'
  ·rcases xK.mp hc' with rfl | hc'
   ·rw[hz];exact y6 _
   ·rw[xo.mp hc'];exact yB (y6 _)
  ·obtain ⟨t,ht,rfl⟩:=yG.mp hc'
   exact yB (yB (hlt t ht))
 ·show X.A.units+_<cLine
  lia
 ·have kept:∀b o,s.heap.get? b=some o->h'.get? b=some o:=λb o e=>kp b o (λhm=>by
   have:=xt e
   rw[xo.mp hm,hz] at this
   exact yt _ (As this)) (wX _ (wX _ e))
  by_cases z:MnR.lt y x=true
  ·have e:argBest (λi j=>MnR.lt ([(a,x),(b,y)].getD i (0,none)).2 ([(a,x),(b,y)].getD j (0,none)).2) 1=1:=by
    show (if MnR.lt y x=true then 1 else 0)=1
    rw[if_pos z]
   rw[show (#[xB a,xB b]:Array xb).size-1=1 from rfl,e] at pv
   have pv:=(x9 pv).symm
   exact ⟨.ref b,H,I.kept kept,pv,q1 z⟩
  ·have e:argBest (λi j=>MnR.lt ([(a,x),(b,y)].getD i (0,none)).2 ([(a,x),(b,y)].getD j (0,none)).2) 1=0:=by
    show (if MnR.lt y x=true then 1 else 0)=0
    rw[if_neg z]
   rw[show (#[xB a,xB b]:Array xb).size-1=1 from rfl,e] at pv
   have pv:=(x9 pv).symm
   exact ⟨.ref a,H,I.kept kept,pv,q2 (zH.mpr z)⟩
open PySem PySem.Spec PyProof.Rows
def bS (K:wY)(x:Str)(st:Stmt):Prop:=∃(f:Addr) (od an:Option Addr) (sl:Array (Option xb)) (oc kV dc pm cd ct:xb),yx K xZ x=some (some (.ref f))/\K.lookup f=some ⟨oc,od,.func (PySem.W.fnOf x x (cO st) (cD st) (aB st) .none kV dc pm an cd ct),sl⟩/\PySem.W.codeIn K cd x=true/\PySem.W.keepIn K (.ref f)=true
theorem bS.mk {K:wY}{x:Str}{st:Stmt}{f:Addr}{od an:Option Addr}{sl:Array (Option xb)}{oc kV dc pm cd ct:xb}(a:yx K xZ x=some (some (.ref f)))(l:K.lookup f=some ⟨oc,od,.func (PySem.W.fnOf x x (cO st) (cD st) (aB st) .none kV dc pm an cd ct),sl⟩)(c:PySem.W.codeIn K cd x=true)(k:PySem.W.keepIn K (.ref f)=true):bS K x st:=⟨_,_,_,_,_,_,_,_,_,_,a,l,c,k⟩
theorem bS.cal {K:wY}{x:Str}{st:Stmt}(hf:bS K x st)(P:xA)(w:xQ)(base:Heap){h:Heap}{mg:Str->Option xb}(X:K.In h)(G:h.Ns xZ mg){lv:Nat}{ps:List Str}{sp:Sp}(ok:∀{f:Addr} {fd:yd},Fun K x x st f fd->bG P w K mg base CX0 lv f fd ps sp)
  (hb:∀(kV doc pm:xb) (an:Option Addr) (cdv ct:xb) (us:List xb),us.length=ps.length->bindArgs (PySem.W.fnOf x x (cO st) (cD st) (aB st) .none kV doc pm an cdv ct) ⟨us,[]⟩=pure (ps.zip us)):Cal P w K mg base lv x ps sp:=by
 obtain ⟨f,od,an,sl,oc,kV,dc,pm,cd,ct,a,l,c,k⟩:=hf
 have F:=m7 l c k
 exact ⟨_,_,ok F,Cg X G a,k,F.binds hb⟩
open PySem PySem.Spec PyProof.Rows
theorem bS.jb {K:wY}{x:Str}{st:Stmt}(hf:bS K x st)(P:xA)(w:xQ)(base:Heap){h:Heap}{mg:Str->Option xb}(X:K.In h)(G:h.Ns xZ mg){ps:List Str}(d:Nat){sp:Nat->Sp}(h0:∀vs H Q E,¬ sp 0 vs H Q E)
  (ok:∀n,Cal P w K mg base (d+n) x ps (sp n)->∀{f:Addr} {fd:yd},Fun K x x st f fd->bG P w K mg base CX0 (d+n+1) f fd ps (sp (n+1)))
  (hb:∀(kV doc pm:xb) (an:Option Addr) (cdv ct:xb) (us:List xb),us.length=ps.length->bindArgs (PySem.W.fnOf x x (cO st) (cD st) (aB st) .none kV doc pm an cdv ct) ⟨us,[]⟩=pure (ps.zip us)):∀n,Cal P w K mg base (d+n) x ps (sp n):=by
 obtain ⟨f,od,an,sl,oc,kV,dc,pm,cd,ct,a,l,c,k⟩:=hf
 have F:=m7 l c k
 intro n
 induction n with
 | zero=>exact ⟨_,_,⟨λvs H Q E z=>absurd z (h0 _ _ _ _),λA outer s H args us vs Q E hr he hb hv hs=>absurd hs (h0 _ _ _ _)⟩,Cg X G a,k,F.binds hb⟩
 | succ n ih=>exact ⟨_,_,ok n ih F,Cg X G a,k,F.binds hb⟩
open PySem PySem.Spec PyProof.Rows
section
variable  {X:Cx}
theorem nN (hc:X.calm=true):bK X (.builtin "max") (λxs H Q=>∃(a:Addr) (ns:List Int),xs=[.ref a]/\SqT X.K H a (ns.map V.int)/\ns≠[]/\∀M:Int,M∈ns->(∀b∈ns,b<=M)->Q (.int M) H):=by
 intro pins s σ H xs us Q I r h
 obtain ⟨a,ns,rfl,hS,hne,q⟩:=h
 obtain ⟨u,rfl,ru⟩:=vals1 r
 cases (show u=xB a from ru)
 obtain ⟨its,r1,p1,_⟩:=I.tuple hS
 obtain ⟨ps,e2,e3⟩:=cp (intsAre_of r1)
 have ei:its.toArray=zz ps.toArray:=by rw[e2];simp[zz]
 have hT:s.heap.IsTuple a (zz ps.toArray):=by
  obtain ⟨o,ho,hc',n,hd⟩:=p1
  exact ⟨o,ho,hc',n,by rw[<- ei];exact hd⟩
 have hp:0<ns.length:=yK.mpr hne
 have ht:ps.toArray.toList.map (·.1)=ns:=e3
 have hsz:(zz ps.toArray).size=ns.length:=by
  simp only[zz,yE]
  rw[xc, <- e3,wW]
 have hal:a<s.heap.objs.size:=by obtain ⟨o,ho,_⟩:=p1;exact xt ho
 refine call_max_walk (zi hT ?_)
 refine ⟨_,[_,a],[_],_,_,_,_,rfl,C8 (A:=X.A.in1) (I.ok.hd hc) _ a (xF hal) (zz ps.toArray),⟨⟨_,xr _ rfl,rfl,rfl⟩,hT.push _⟩,λc hm =>?_,by lia,CmpOf.ints_gt (numAt ps.toArray) (λ_ _=>Cn),λv h' tk hv hk =>?_⟩
 ·show c<(s.heap.push _).objs.size
  rw[zG]
  rcases xK.mp hm with z | z
  ·rw[z];exact y6 _
  ·rw[xo.mp z];exact yB hal
 have old:∀b o,s.heap.get? b=some o->h'.get? b=some o:=λb o e=>by
  refine hk b o (λhm =>?_) (wX _ e)
  have l:=xt e
  rw[xo.mp hm] at l
  exact yt _ l
 rw[hsz] at hv
 obtain ⟨t,rfl⟩:=Cn hv
 obtain ⟨h1,h2⟩:=argBest_gt (numAt ps.toArray) (ns.length-1)
 refine ⟨.int _,H,I.kept old,⟨_,rfl⟩,q _ ?_ λb hb =>?_⟩
 ·rw[A3,ht];exact nF (by lia)
 ·obtain ⟨j,hj,rfl⟩:=nG hb
  have:=h2 j (by lia)
  rw[A3,A3,ht] at this
  rw[A3,ht]
  exact this
def ItR (K:wY)(a:Addr)(n:Nat):It :=
 ⟨λi H=>i<n/\∃xs,SqL K H a xs/\xs.length=n,λi H x H'=>H'=H/\∀xs,SqL K H a xs->xs[n-1-i]? = some x,λi _=>i=n⟩
theorem r6 {P:xA}{w:xQ}{K:wY}{tg:Expr}(a it:Addr)(n:Nat):Turn P w K tg (ItR K a n) [it] it (λi h=>i<=n/\h.IsRevIter it a ((n:Int)-1-i)) where
 mem:=by simp
 obj:=λi h st b hb=>by
  rw[xo.mp hb]
  obtain ⟨_,o,e,c,d⟩:=st
  exact ⟨o,e,λv z=>by rw[d] at z;cases z⟩
 keep:=λi h h' st k=>⟨st.1,st.2.at λo e=>k it (by simp) o e⟩
 item:=by
  intro X hP hw hK hc i pins s σ H E I hf st hg
  subst hP hw hK
  obtain ⟨hi,xs,hq,hx⟩:=hg
  obtain ⟨its,rv,p,hz⟩:=I.list hq
  obtain ⟨x,ex⟩:∃x,xs[n-1-i]? = some x:=⟨xs[n-1-i]'(by omega),xp _⟩
  obtain ⟨u,hu,ru⟩:=rv.get ex
  obtain ⟨f0,f1,f2,f3,f4,f5⟩:=hf it (by simp)
  have st':=st.2
  rw[show (n:Int)-1-i=((n-1-i:Nat):Int) by omega] at st'
  refine wpAny_pyNext_rev_item st' p.isList (x:=u) (by simpa using hu) λh' sn sb =>?_
  have I1:Inv X pins σ H { s with heap:=h' }:=I.turned (t':=s.toks) (λb o hb e=>(sb.2 b hb).trans e) f0 f1 f3 f4 f5
  obtain ⟨o,e,c,d⟩:=id sn
  refine ⟨u,rfl,om (s:={ s with heap:=h' }) e c d (by decide) ⟨x,H,I1,ru,⟨rfl,λys hy=>by rw[I.iN hy hq];exact ex⟩,⟨hi,?_⟩,λb hb=>(hf b hb).1⟩⟩
  rw[show (n:Int)-1-((i+1:Nat):Int)=((n-1-i:Nat):Int)-1 by omega]
  exact sn
 done:=by
  intro X hP hw hK hc i pins s σ H E I hf st hg
  subst hP hw hK
  have hg:i=n:=hg
  obtain ⟨f0,f1,f2,f3,f4,f5⟩:=hf it (by simp)
  have st':=st.2
  rw[show (n:Int)-1-i = -1 by omega] at st'
  exact wpAny_pyNext_rev_end (I.ok.hd hc) st' λh' eb=>⟨rfl,I.turned (t':=s.toks) (λb o hb e=>eb b o hb e) f0 f1 f3 f4 f5⟩
 self:=λ_ _ _ _ _ st h=>C2 st.2 h
def iRev (K:wY)(tl:TE):TI:=λσ H R=>tl σ H λx H1=>∃a xs,x = .ref a/\SqL K H1 a xs/\R (ItR K a xs.length) H1
theorem vM {tg e:Expr}{te:TE}{p2 pos2:Pos}(hg2:Gl X "reversed")(hm2:X.mg "reversed" = none)(he:PE X e te)
  (hs2:yO [e] X.env=(false,eval e X.env) :: yO [] X.env:=by rfl) (hp2:(C4 pos2 (yO [] X.env)).any (·.1)=false:=by rfl) :
  PI X tg (.Call (.Name "reversed" p2) [e] [] pos2) (iRev X.K te):=by
 intro pins s σ H R I h
 refine Aj (fN I hg2 hm2 my ?_ (by decide) (by decide))
 refine zd (thn ((aa he af hs2) pos2 pins s σ H (λvs H1=>match vs with | [x]=>∃a xs,x = .ref a/\SqL X.K H1 a xs/\R (ItR X.K a xs.length) H1 | _=>False) I h) λus s1 ⟨vs,H1,I1,r1,q1⟩ =>?_) hs2 hp2
 match vs,q1 with
 | [x],q1 =>
  obtain ⟨l,xs,rfl,hx,q⟩:=q1
  obtain ⟨u,rfl,ru⟩:=vals1 r1
  cases (show u=xB l from ru)
  obtain ⟨its,r,hl,hz⟩:=I1.list hx
  have ll:=r.length
  refine call_reversed_list hl.isList ?_
  have st:(s1.heap.push (revObj l ((its.toArray.size:Int)-1))).IsRevIter s1.heap.objs.size l ((xs.length:Int)-1-(0:Nat)):=⟨_,xr _ rfl,rfl,by rw[xc, <- ll];show Data.fields #[_,Er ((xs.length:Int)-1)]=Data.fields #[_,Er ((xs.length:Int)-1-(0:Nat))];rw[show (xs.length:Int)-1-(0:Nat)=(xs.length:Int)-1 by omega]⟩
  refine C2 st ?_
  refine ⟨s1.heap.objs.size,[s1.heap.objs.size],_,_,H1,rfl,I1.kept (t':=s1.toks) (λb o e=>wX _ e),r6 l _ xs.length,⟨yk _,st⟩,λb hb =>?_,q⟩
  rw[xo.mp hb]
  exact I1.pM (xg _) (I1.hok.fresh (xg _))
end
theorem t9 {K:wY}{a:Addr}{xs:List V}{g:TG}{tb:TS}{D:Ends}{σ:St}{H:Hp}(Pv:Nat->St->Hp->Prop)(h0:Pv 0 σ H)(hl:∀i σ H,i<=xs.length->Pv i σ H->SqL K H a xs)
  (hs:∀i x σ H,xs.reverse[i]? = some x->Pv i σ H->g x σ H λσ2 H2=>tb { D with nx:=Pv (i+1),ct:=Pv (i+1),bk:=D.nx } σ2 H2) (hd:∀σ H,Pv xs.length σ H->D.nx σ H):vn (ItR K a xs.length) g tb D σ H:=by
 refine ⟨λi m σ H=>m=xs.length-i/\i<=xs.length/\Pv i σ H,⟨xs.length,by simp,yk _,h0⟩,?_⟩
 rintro i m σ H ⟨rfl,hi,p⟩
 have q:=hl i σ H hi p
 by_cases c:i<xs.length
 ·refine .inr ⟨⟨c,xs,q,rfl⟩,Pv (i+1),λσ' H' p'=>⟨xs.length-(i+1),by lia,rfl,c,p'⟩,λx H' y =>?_⟩
  obtain ⟨e,y⟩:=y
  subst e
  refine hs i x σ _ ?_ p
  rw[CL c]
  exact y xs q
 ·have e:i=xs.length:=by lia
  subst e
  exact .inl ⟨rfl,hd σ H p⟩
open PySem PySem.Spec PyProof.Rows
theorem qx {X:Cx}(hh:X.A.handled=none):bK X (.builtin "sum") (λxs H Q=>∃(p:Addr) (ns:List Int),xs=[.ref p]/\SqL X.K H p (ns.map V.int)/\Q (.int ns.sum) H):=by
 intro pins s σ H xs us Q I r h
 obtain ⟨p,ns,rfl,hp,q⟩:=h
 obtain ⟨u,rfl,ru⟩:=vals1 r
 cases (show u=xB p from ru)
 obtain ⟨its,r1,pl,_⟩:=I.list hp
 obtain ⟨zs,e2,e3⟩:=cp (intsAre_of r1)
 have ei:its.toArray=zz zs.toArray:=by rw[e2];simp[zz]
 have il:s.heap.IsList p (zz zs.toArray):=by rw[<- ei];exact pl.isList
 refine sum_intListG hh (xs:=zs.toArray) il λh' tk t' k =>?_
 rw[preSum_eq,yq (by simp),e3]
 exact ⟨.int _,H,I.kept k,⟨_,rfl⟩,q⟩
end L2
namespace Kys
open PySem PyProof.Rows
section
variable  {prog:xA}{w:xQ}{A:yh}{E:xb->xh->Prop}{s:xh}
def PD (h:Heap)(d:Addr)(es:Array DictEntry)(ep:Nat):Prop:=∃o,h.get? d=some o/\o.ExactDict/\o.data = .dict es ep
def kObj (d:Addr)(i n ep:Nat):Obj:={ cls :=.type "dict_keyiterator",data :=.fields #[.ref d,.int i 0,.int n 0,.int ep 0] }
theorem PD.ty {d:Addr}{es:Array DictEntry}{ep:Nat}(x:PD s.heap d es ep):s.TypeIs (.ref d) "dict" := let ⟨o,e,c,_⟩:=x;⟨o,e,c.1⟩
theorem vN {d:Addr}{es:Array DictEntry}{ep:Nat}{Q:xb->xh->Prop}(hs:(d == sysModules)=false)(hd:PD s.heap d es ep)
  (hQ:Q (.ref s.heap.objs.size) { s with heap:=s.heap.push (kObj d 0 es.size ep) }):xM (xT prog w) A (Builtin.«dict.__iter__» ⟨[.ref d],[]⟩) (λfin s'=>∃v,fin = .done (.ret v)/\Q v s') E s:=by
 obtain ⟨⟨oc,odd,odt,os'⟩,hod,⟨hc,_⟩,hdd⟩:=hd
 dsimp only at hdd hc
 subst hdd hc
 unfold Builtin.«dict.__iter__»
 wp_walk
 exact ⟨_,rfl,hQ⟩
theorem nextOne {it d:Addr}{es:Array DictEntry}{ep i:Nat}{e:DictEntry}{Q:xb->xh->Prop}(hi:s.heap.get? it=some (kObj d i es.size ep))(hd:PD s.heap d es ep)(he:es[i]? = some e)
  (hQ:∀h',h'.get? it=some (kObj d (i+1) es.size ep)->Heap.SameBut it s.heap h'->Q e.key { s with heap:=h' }):xM (xT prog w) A (Builtin.«dict_keyiterator.__next__» ⟨[.ref it],[]⟩) (λfin s'=>∃v,fin = .done (.ret v)/\Q v s') E s:=by
 obtain ⟨⟨oc,odd,odt,os'⟩,hod,⟨hc,_⟩,hdd⟩:=hd
 dsimp only at hdd hc
 subst hdd hc
 unfold kObj at hi
 unfold Builtin.«dict_keyiterator.__next__»
 wp_walk
 rw[show (if (i:Int)<0 then none else es[(i:Int).toNat]?)=some e by rw[if_neg (by lia),A8];exact he]
 wp_walk
 exact ⟨_,rfl,hQ _ ((yF _ hi (by first | rfl | kernel_rfl)).trans (by unfold kObj;kernel_rfl)) (AG ..)⟩
theorem uc {it d:Addr}{es:Array DictEntry}{ep i:Nat}{Q:Fin->xh->Prop}(hh:A.handled=none)(hi:s.heap.get? it=some (kObj d i es.size ep))(hd:PD s.heap d es ep)(hl:es.size<=i)
  (hE:∀(h':Heap) (x:Addr),(∀c o,c≠it->s.heap.get? c=some o->h'.get? c=some o)->(∃o,h'.get? x=some o/\o.cls = .type "StopIteration")->E (.ref x) { s with heap:=h' }):xM (xT prog w) A (Builtin.«dict_keyiterator.__next__» ⟨[.ref it],[]⟩) Q E s:=by
 obtain ⟨⟨oc,odd,odt,os'⟩,hod,⟨hc,_⟩,hdd⟩:=hd
 dsimp only at hdd hc
 subst hdd hc
 unfold kObj at hi
 unfold Builtin.«dict_keyiterator.__next__»
 wp_walk
 rw[show (if (i:Int)<0 then none else es[(i:Int).toNat]?)=none by rw[if_neg (by lia),A8];exact Af hl]
 wp_walk
 refine wpAny_raiseNew_none hh (hE _ _ (λc o n e =>?_) ⟨_,xr _ rfl,rfl⟩)
 exact wX _ (wX _ ((yc _ _ (zA n)).trans e))
def KAt (h:Heap)(it d:Addr)(i n ep:Nat):Prop:=h.get? it=some (kObj d i n ep)
theorem KAt.ty {it d:Addr}{i n ep:Nat}(x:KAt s.heap it d i n ep):s.TypeIs (.ref it) "dict_keyiterator" :=⟨_,x,rfl⟩
theorem ud {d:Addr}{es:Array DictEntry}{ep:Nat}{Q:xb->xh->Prop}(hs:(d == sysModules)=false)(hd:PD s.heap d es ep)
  (hQ:Q (.ref s.heap.objs.size) { s with heap:=s.heap.push (kObj d 0 es.size ep) }):xM (xT prog w) A (pyIter (.ref d)) Q E s :=
 B9 hd.ty Cu (yr Cu hd.ty PySem.F.entry_dict_iter (vN hs hd ⟨"dict_keyiterator",_,⟨_,xr _ rfl,rfl⟩,yN.lookup,hQ⟩) (PySem.F.args_dict_iter_1 _))
theorem ue {it d:Addr}{es:Array DictEntry}{ep i:Nat}{e:DictEntry}{Q:Option xb->xh->Prop}(hi:KAt s.heap it d i es.size ep)(hd:PD s.heap d es ep)(he:es[i]? = some e)
  (hQ:∀h',KAt h' it d (i+1) es.size ep->Heap.SameBut it s.heap h'->Q (some e.key) { s with heap:=h' }):xM (xT prog w) A (pyNext (.ref it)) Q E s:=by
 unfold pyNext
 exact wZ (Ci (yM (name:=Str.ofString "__next__") hi.ty yN (yr yN hi.ty AI (nextOne hi hd he λh' k b=>xn (hQ h' k b)) (AA _))))
theorem vO {it d:Addr}{es:Array DictEntry}{ep i:Nat}{Q:Option xb->xh->Prop}(hh:A.handled=none)(hi:KAt s.heap it d i es.size ep)(hd:PD s.heap d es ep)(hl:es.size<=i)
  (hQ:∀h':Heap,(∀c o,c≠it->s.heap.get? c=some o->h'.get? c=some o)->Q none { s with heap:=h' }):xM (xT prog w) A (pyNext (.ref it)) Q E s:=by
 unfold pyNext
 refine wZ (Ci (yM (name:=Str.ofString "__next__") hi.ty yN (yr yN hi.ty AI (uc (by first | exact hh | (rw[<- hh];rfl)) hi hd hl λh' x k ⟨o,ex,ec⟩ =>?_) (AA _))))
 exact wZ (wpAny_isInstance (T := "StopIteration") (b:=true) ⟨o,ex,ec⟩ isSubtype_stop (xn (hQ h' k)))
end
open PySem PyProof.Rows
section
variable  {prog:xA}{w:xQ}{A:yh}{E:xb->xh->Prop}{s:xh}
def lo (acc:Array xb)(c:Nat):Obj:={ cls :=.type "list",data :=.seq acc c }
theorem PD.keeps {h h':Heap}{d:Addr}{es:Array DictEntry}{ep:Nat}(x:PD h d es ep)(k:∀o,h.get? d=some o->h'.get? d=some o):PD h' d es ep:=let ⟨o,e,r⟩:=x;⟨o,k o e,r⟩
theorem fill {S I d:Addr}{es:Array DictEntry}{ep:Nat}{R:Result->xh->Prop}(hh:A.handled=none)(hSI:S≠I)(hdS:d≠S)(hdI:d≠I)(hn:es.size<=xf)(res:xb) :
  ∀(k i:Nat) (s:xh) (ks:List xb) (c:Nat),es.size-i=k->i<=es.size->KAt s.heap I d i es.size ep->PD s.heap d es ep->s.heap.get? S=some (lo ks.toArray c)->ks=(es.toList.take i).map (·.key) →
  (∀(h':Heap) (c':Nat),(∀b o,b≠S->b≠I->s.heap.get? b=some o->h'.get? b=some o)->h'.get? S=some (lo (es.toList.map (·.key)).toArray c')->R (.ok (.ret res)) { s with heap:=h' }) →
  Bl (xT prog w) A (.builtin "list.extend.loop" ⟨[.ref S,.ref I,res],[]⟩) R s:=by
 intro k
 induction k with
 | zero =>
  intro i s ks c hk hi hI hD hS hl hR
  have e:i=es.size:=by lia
  subst e
  refine yp BX ?_
  rw[ym zQ _]
  unfold Builtin.«list.extend.loop»
  dsimp only
  refine wZ (vO (by first | exact hh | (rw[<- hh];rfl)) hI hD (xg _) λh' k' =>?_)
  refine xn (hR h' c (λb o _ n e=>k' b o n e) ?_)
  rw[k' _ _ hSI hS,hl,yq (by rw[xk];exact xg _)]
 | succ k ih =>
  intro i s ks c hk hi hI hD hS hl hR
  obtain ⟨e,he⟩:∃e,es[i]? = some e:=⟨es[i]'(by lia),yw (by lia)⟩
  have lk:ks.length=i:=by rw[hl,wW,yy,xk];lia
  refine yp BX ?_
  rw[ym zQ _]
  unfold Builtin.«list.extend.loop»
  dsimp only
  refine wZ (ue hI hD he λh' I' sb =>?_)
  have k':∀b o,b≠I->s.heap.get? b=some o->h'.get? b=some o:=λb o n e=>(sb.2 b n).trans e
  have hS':=k' _ _ hSI hS
  refine wZ (Ck (xs:=ks.toArray) (n:=c) hS' rfl ?_ ?_ ?_)
  ·have hS2:=yF (yW (·.push e.key)) hS' rfl
   have oth:∀b o,b≠S->h'.get? b=some o->(h'.update S (yW (·.push e.key))).get? b=some o:=λb o n e=>(yc _ _ (zA n)).trans e
   obtain ⟨c',ec⟩:∃c',(h'.update S (yW (·.push e.key))).get? S=some (lo (ks++[e.key]).toArray c'):=by
    rw[show (ks++[e.key]).toArray=ks.toArray.push e.key by simp]
    exact ⟨_,hS2⟩
   refine xn ⟨zw zQ _,ih (i+1) _ (ks++[e.key]) c' (by lia) (by lia) (oth _ _ (zA hSI) I') (hD.keeps λo e=>oth _ _ hdS (k' _ _ hdI e)) ec ?_ λh2 c2 k2 e2=>hR h2 c2 (λb o n1 n2 eb=>k2 b o n1 n2 (oth b o n1 (k' b o n2 eb))) e2⟩
   rw[hl,y8,xy,he,xq];rfl
  ·rw[xc];lia
  ·show (ks.toArray.push _).size<=_
   rw[zW,xc];lia
theorem extend {S d:Addr}{es:Array DictEntry}{ep:Nat}{R:Result->xh->Prop}(hh:A.handled=none)(hs:(d == sysModules)=false)(hd:PD s.heap d es ep)(hn:es.size<=xf)(res:xb)(c:Nat)(hS:s.heap.get? S=some (lo #[] c))(hdS:d≠S)
  (hR:∀(h':Heap) (c':Nat),(∀b o,b≠S->s.heap.get? b=some o->h'.get? b=some o)->h'.get? S=some (lo (es.toList.map (·.key)).toArray c')->R (.ok (.ret res)) { s with heap:=h' }) :
  xM (xT prog w) A.in1 (zj (.ref S) (.ref d) res)
   (λfin s'=>match fin with | .done f=>R (.ok f) s' | .again c'=>c'.quiet=true/\Bl (xT prog w) A c' R s') (λe s'=>R (.error e) s') s:=by
 have sameF:Ca (.ref S) (.ref d)=false:=by simp[Ca,zA hdS]
 unfold zj
 refine wZ (Aq (T := "dict") hd.ty ?_)
 rw[sameF]
 refine wpAny_ite_split (λq=>absurd q (by decide +kernel)) λ_ =>?_
 refine wZ (ud hs hd ?_)
 have kp:∀b o,s.heap.get? b=some o->(s.heap.push (kObj d 0 es.size ep)).get? b=some o:=λb o e=>wX _ e
 have hd1:PD (s.heap.push (kObj d 0 es.size ep)) d es ep:=hd.keeps λo e=>kp _ _ e
 refine wZ (yL (PySem.W.kdl_hint_dict (PD.ty (s:={ s with heap:=s.heap.push (kObj d 0 es.size ep) }) hd1) ?_))
 refine wpAny_ite_split (λ_ =>?_) λq=>absurd (by decide +kernel) q
 have hSp:=kp _ _ hS
 unfold lo at hSp
 have t1:=yF (yW (·.push zc)) hSp rfl
 have t2:=yF (yW (·.pop)) t1 rfl
 have up:∀b o,b≠S->s.heap.get? b=some o->(((s.heap.push (kObj d 0 es.size ep)).update S (yW (·.push zc))).update S (yW (·.pop))).get? b=some o:=λb o n e=>by
  rw[yc _ _ (zA n),yc _ _ (zA n)];exact kp b o e
 have nI:S≠s.heap.objs.size:=xF (xt hS)
 have hI2:(((s.heap.push (kObj d 0 es.size ep)).update S (yW (·.push zc))).update S (yW (·.pop))).get? s.heap.objs.size=some (kObj d 0 es.size ep):=by
  rw[yc _ _ nI,yc _ _ nI];exact xr _ rfl
 have ld:d<s.heap.objs.size:=let ⟨_,e,_⟩:=hd;xt e
 wp_walk
 obtain ⟨c2,ec2⟩:∃c2,(((s.heap.push (kObj d 0 es.size ep)).update S (yW (·.push zc))).update S (yW (·.pop))).get? S=some (lo ([]:List xb).toArray c2):=⟨_,t2⟩
 exact ⟨zw zQ _,fill (ep:=ep) hh nI hdS (xF ld) hn res es.size 0 _ [] c2 rfl (yk _) hI2 (hd.keeps λo e=>up _ _ hdS e) ec2 rfl λh' c' k' e'=>hR h' c' (λb o n e=>k' b o n (xF (xt e)) (up _ _ n e)) e'⟩
theorem wR {d:Addr}{es:Array DictEntry}{ep:Nat}{R:Result->xh->Prop}(hh:A.handled=none)(hs:(d == sysModules)=false)(hd:PD s.heap d es ep)(hn:es.size<=xf)
  (h:∀(h':Heap) (c':Nat),(∀b o,s.heap.get? b=some o->h'.get? b=some o)->h'.get? s.heap.objs.size=some (lo (es.toList.map (·.key)).toArray c')->R (.ok (.ret (.ref s.heap.objs.size))) { s with heap:=h' }):Bl (xT prog w) A (.builtin "proto.collect" ⟨[.ref d],[]⟩) R s:=by
 have kp:∀b o,s.heap.get? b=some o->(s.heap.push (lo #[] 0)).get? b=some o:=λb o e=>wX _ e
 have ld:d<s.heap.objs.size:=let ⟨_,e,_⟩:=hd;xt e
 refine yp Bw ?_
 rw[ym Bx _]
 unfold Builtin.«proto.collect»
 wp_walk
 refine ⟨zw Ab _,yp Ce ?_⟩
 rw[ym Ab _]
 exact extend (R:=R) (s:={ s with heap:=s.heap.push (lo #[] 0) }) hh hs (hd.keeps λo e=>kp _ _ e) hn (.ref s.heap.objs.size) 0 (xr _ rfl) (xF ld) λh' c' k' e'=>h h' c' (λb o e=>k' b o (xF (xt e)) (kp b o e)) e'
theorem jH {d:Addr}{es:Array DictEntry}{ep:Nat}{R:List xb->xh->Prop}(hh:A.handled=none)(hs:(d == sysModules)=false)(hd:PD s.heap d es ep)(hn:es.size<=xf)
  (h:∀(h':Heap),(∀b o,s.heap.get? b=some o->h'.get? b=some o)->s.heap.objs.size<h'.objs.size->R (es.toList.map (·.key)) { s with heap:=h' }):xM (xT prog w) A (PySem.collect (.ref d)) R E s:=by
 unfold PySem.collect
 refine wZ (Bb (wR hh hs hd hn λh' c' k' e' =>?_))
 refine wZ (DJ e' ?_)
 exact xn (h h' k' (xt e'))
end
end Kys
namespace L2
open PySem PySem.Spec PyProof.Rows Srt
section
variable  {X:Cx}
theorem oS {H:Hp}:∀{ks:List (List Int)} {kvs:List (List Key×V)} {xs:List (List Key×Addr×xb)},KT H kvs xs->kvs.map (·.1)=ks.map (·.map Sum.inl)->∃ts:List (Addr×List Int),ts.map (·.2)=ks/\xs.map (λq=>xB q.2.1)=ts.map (λt=>xB t.1)/\∀t∈ts,H t.1=some (.tup (t.2.map V.int))
 | [],_,_,.nil,_=>⟨[],rfl,rfl,λt h=>nomatch h⟩
 | [],_,_,.cons _ _,e=>by cases e
 | k :: ks,_,_,.nil,e=>by cases e
 | k :: ks,kv :: kvs,x :: xs,.cons h t,e=>by
  rw[xJ,xJ] at e
  injection e with e1 e2
  obtain ⟨ts,a,b,c⟩:=oS t e2
  refine ⟨(x.2.1,k) :: ts,by rw[xJ,a],by rw[xJ,xJ,b],λu hu =>?_⟩
  rcases xK.mp hu with z | z
  ·rw[z]
   have:=h.2.1
   rw[e1,BK] at this
   exact this
  ·exact c u z
theorem jI (hh:X.A.handled=none):bK X (.builtin "sorted") (λxs H Q=>∃(a:Addr) (kvs:List (List Key×V)) (ks:List (List Int)),xs=[.ref a]/\H a=some (.dT kvs)/\kvs.map (·.1)=ks.map (·.map Sum.inl)/\(∀k∈ks,k≠[]) ∧
  ∀(l:Addr) (out:List (Addr×List Int)),H l=none->(∀t∈out,H t.1=some (.tup (t.2.map V.int)))->(out.map (·.2)).Perm ks->out.Pairwise (λa b=>HT.lexLt b.2 a.2=false)->Q (.ref l) (upd H l (.lst (out.map λt =>.ref t.1)))):=by
 intro pins s σ H xs us Q I r h
 obtain ⟨a,kvs,ks,rfl,ha,ek,nk,q⟩:=h
 obtain ⟨u,rfl,ru⟩:=vals1 r
 cases (show u=xB a from ru)
 obtain ⟨z,hd,ys,rel,o,es,ep,g1,g2,g3,g4,_⟩:=uM I.hok ha
 obtain ⟨ts,et,ex,tt⟩:=oS rel ek
 have lv:kvs.length=ys.length:=zu rel
 have eK:es.toList.map (·.key)=ts.map λt=>xB t.1:=by
  rw[<- ex,g4,BK];rfl
 have lt':ts.length<=xf:=by
  have:=congrArg List.length ex
  rw[wW,wW] at this
  lia
 have le:es.size<=xf:=by
  have:=congrArg List.length eK
  rw[wW,wW,xk] at this
  lia
 have tup:∀t∈ts,Srt.cZ s.heap (xB t.1) t.2:=λt hm=>by
  obtain ⟨jts,jr,⟨jo,je,jc,jn,jd⟩,_⟩:=I.tuple (SqT.of (K:=X.K) (tt t hm))
  exact ⟨t.1,jo,_,jn,rfl,je,jc,jd,by simpa using dW jr⟩
 have hv:∀v∈ts.map (λt=>xB t.1),∃ns,Srt.cZ s.heap v ns/\ns≠[]:=λv hv=>by
  obtain ⟨t,hm,rfl⟩:=yG.mp hv
  exact ⟨t.2,tup t hm,nk _ (by rw[<- et];exact zr hm)⟩
 refine BW kind_sorted plain_sorted entry_sorted (args_sorted1 _) ?_
 unfold Builtin.«sorted»
 refine wZ (m:=checkCount "sorted" 1 1 _) (xn ?_)
 refine wZ (Kys.jH (by simpa using hh) hd ⟨o,g1,g2,g3⟩ le λh1 k1 z1 =>?_)
 rw[eK]
 refine wZ (Cm ?_ (by rw[wW];exact lt'))
 have hoL:(h1.push (seqObj "list" (ts.map λt=>xB t.1).toArray 0)).get? h1.objs.size=some (seqObj "list" (ts.map λt=>xB t.1).toArray 0):=xr _ rfl
 have kL:∀b o,s.heap.get? b=some o->(h1.push (seqObj "list" (ts.map λt=>xB t.1).toArray 0)).get? b=some o:=λb o e=>wX _ (k1 b o e)
 refine wZ (yL (yr slot_list_sort ⟨_,hoL,rfl⟩ entry_list_sort (fL (key:=Srt.cE s.heap) (O:=Srt.lexOrd) hoL (by rw[wW];exact lt') (λh2 h6 k6 =>?_) λout pm ps=>⟨_,rfl,?_⟩) (args_list_sort _)))
 ·exact (Srt.gs (prog:=X.prog) (w:=X.w) (s:=s) hv).ok h2 _ h6 λb o e=>k6 b o (xF (CH (xt e) z1)) (kL b o e)
 ·obtain ⟨n,en⟩:=sortedHeap_at (out:=out.toArray) hoL
  obtain ⟨out',pm',rfl⟩:=iZ pm
  have kf:∀b o,s.heap.get? b=some o->(sortedHeap (h1.push (seqObj "list" (ts.map λt=>xB t.1).toArray 0)) h1.objs.size (ts.map λt=>xB t.1) (out'.map λt=>xB t.1).toArray).get? b=some o:=λb o e=>by
   have lt:=CH (xt e) z1
   rw[sortedHeap_old (xF lt) (by rw[Ep];exact yB lt)]
   exact kL b o e
  refine xn ⟨_,rfl,.ref h1.objs.size,_,I.newList kf (Ak z1) en gW (by rw[wW,pm'.length_eq];exact lt'),rfl,q _ out' (I.hok.fresh (Ak z1)) (λt ht=>tt t (pm'.mem_iff.mp ht)) (by rw[<- et];exact pm'.map _) ?_⟩
  refine (zq.mp ps).imp_of_mem λ{a b} ha hb le =>?_
  have le':HT.lexLt (Srt.cE s.heap (xB b.1)) (Srt.cE s.heap (xB a.1))=false:=le
  rw[(tup a (pm'.mem_iff.mp ha)).ints,(tup b (pm'.mem_iff.mp hb)).ints] at le'
  exact le'
end
end L2
set_option maxHeartbeats 800000
namespace K61
open PySem L2
def top (i:Nat):Stmt:=PySem.Challenge.pw_ringfell_k61_one_way_trees_judged.main.body.getD i (.Pass ⟨0,0,0,0⟩)
abbrev kW:Stmt:=top 1
abbrev fS:Stmt:=top 2
abbrev jf:Stmt:=top 3
abbrev fe:Stmt:=top 4
abbrev dX:Stmt:=top 5
abbrev fT:Stmt:=top 6
abbrev dY:Stmt:=top 8
abbrev jg:Stmt:=top 9
abbrev gZ:Stmt:=top 11
abbrev nO:Stmt:=top 13
abbrev nP:Stmt:=top 14
abbrev kX:Stmt:=top 15
abbrev oT:Stmt:=top 16
abbrev g7:Stmt:=top 17
abbrev nQ:Stmt:=top 18
abbrev jh:Stmt:=top 19
abbrev kY:Stmt:=top 20
abbrev nR:Stmt:=top 21
abbrev kZ:Stmt:=top 22
abbrev nU:Stmt:=top 23
abbrev nV:Stmt:=top 24
abbrev k5:Stmt:=top 25
abbrev dZ:Stmt:=top 26
abbrev ji:Stmt:=top 27
abbrev jj:Stmt:=top 28
abbrev nW:Stmt:=top 29
abbrev nX:Stmt:=top 30
abbrev qy:Stmt:=top 31
structure Blt (mg:Str->Option xb):Prop where
 b_all:mg "all" = none
 b_any:mg "any" = none
 b_bool:mg "bool" = none
 b_divmod:mg "divmod" = none
 b_enumerate:mg "enumerate" = none
 b_int:mg "int" = none
 b_isinstance:mg "isinstance" = none
 b_len:mg "len" = none
 b_list:mg "list" = none
 b_max:mg "max" = none
 b_min:mg "min" = none
 b_range:mg "range" = none
 b_reversed:mg "reversed" = none
 b_set:mg "set" = none
 b_sorted:mg "sorted" = none
 b_sum:mg "sum" = none
 b_tuple:mg "tuple" = none
theorem hJ:yo "all" = some (.builtin "all"):=by decide +kernel
theorem k7:yo "any" = some (.builtin "any"):=by decide +kernel
theorem uf:yo "bool" = some (.type "bool"):=by decide +kernel
theorem qz:yo "divmod" = some (.builtin "divmod"):=by decide +kernel
theorem r9:yo "int" = some (.type "int"):=by decide +kernel
theorem dz:yo "isinstance" = some (.builtin "isinstance"):=by decide +kernel
theorem cu:yo "len" = some (.builtin "len"):=by decide +kernel
theorem iD:yo "list" = some (.type "list"):=by decide +kernel
theorem vP:yo "max" = some (.builtin "max"):=by decide +kernel
theorem jk:yo "min" = some (.builtin "min"):=by decide +kernel
theorem mC:yo "range" = some (.type "range"):=by decide +kernel
theorem sd:yo "set" = some (.type "set"):=by decide +kernel
theorem ko:yo "sorted" = some (.builtin "sorted"):=by decide +kernel
theorem jl:yo "sum" = some (.builtin "sum"):=by decide +kernel
theorem de:yo "tuple" = some (.type "tuple"):=by decide +kernel
theorem hu8 {A:yh}{k:Nat}(hr:cq k A):A.units+8<cLine:=AV (AF (by decide:8<=64) _) hr.units
structure Wb (H:Hp)(r:Addr)(m:Int)(ts:List (Addr×List Int)):Prop where
 at':∃t,H r=some (.tup [.int m,.ref t])/\H t=some (.tup (ts.map λu =>.ref u.1))
 tup:∀u∈ts,H u.1=some (.tup (u.2.map V.int))
 pr:∀u∈ts,∃a b:Int,u.2=[a,b]/\0<=a/\a<m/\0<=b/\b<m
 len:ts.length<=200
theorem Wb.tp {H H':Hp}{r:Addr}{m:Int}{ts:List (Addr×List Int)}(h:Wb H r m ts)(t:Tp H H'):Wb H' r m ts :=
 let ⟨p,e1,e2⟩:=h.at'
 ⟨⟨p,t _ _ e1,t _ _ e2⟩,λu hu=>t _ _ (h.tup u hu),h.pr,h.len⟩
theorem Wb.same {H H':Hp}{r:Addr}{m:Int}{ts:List (Addr×List Int)}(h:Wb H r m ts)(s:aK H H'):Wb H' r m ts:=h.tp s.tp
def Ok (m:Nat)(ns:List (List Int)):Prop:=∀p∈ns,∃a b:Int,p=[a,b]/\0<=a/\a<m/\0<=b/\b<m
theorem take_snoc {α β:Type}{f:α -> β}{l:List α}{i:Nat}{x:α}(e:l[i]? = some x):(l.take (i+1)).map f=(l.take i).map f++[f x]:=by
 rw[y8,e,xq];rfl
section
variable  {P:xA}{w:xQ}{K:wY}{mg:Str->Option xb}{base:Heap}{f:Addr}{fd:yd}
end
section
variable  {P:xA}{w:xQ}{K:wY}{mg:Str->Option xb}{base:Heap}{f:Addr}{fd:yd}
end
section
variable  {P:xA}{w:xQ}{K:wY}{mg:Str->Option xb}{base:Heap}{f:Addr}{fd:yd}
end
section
variable  {P:xA}{w:xQ}{K:wY}{mg:Str->Option xb}{base:Heap}{f:Addr}{fd:yd}
end
def rgI (m:Nat):List Int:=(yj m).map λi:Nat=>(i:Int)
theorem ug {m:Nat}{v:Int}:v∈rgI m↔0<=v/\v<m:=by
 unfold rgI
 rw[yG]
 constructor
 ·rintro ⟨i,hi,rfl⟩
  rw[yf] at hi
  lia
 ·intro h
  exact ⟨v.toNat,yf.mpr (by lia),by lia⟩
theorem se {R:List Int}{m:Nat}(nd:R.Nodup)(h:∀v∈R,0<=v/\v<m):R.length<=m:=by
 have:=z6 nd (l₂:=rgI m) λv hv=>ug.mpr (h v hv)
 unfold rgI at this
 rw[wW,y9] at this
 exact this
section
variable  {P:xA}{w:xQ}{K:wY}{mg:Str->Option xb}{base:Heap}{f T:Addr}{fd:yd}
end
theorem jm {n:Nat}(h:n<=5000):n<xf:=AV h (by decide)
theorem aR {n:Nat}(h:n<=5000):n<=xf:=Ak (jm h)
theorem iw {ms:List Int}{i:Nat}{x:V}(e:(ms.map V.int)[i]? = some x):∃n,ms[i]? = some n/\x = .int n:=by
 rw[xW] at e
 cases z:ms[i]? with
 | none=>rw[z] at e;cases e
 | some n=>rw[z] at e;exact ⟨n,rfl,(x9 e).symm⟩
section
variable  {P:xA}{w:xQ}{K:wY}{mg:Str->Option xb}{base:Heap}{f T:Addr}{fd:yd}
end
def prv (Z:List Int)(k:Nat):Int:=Z.getD (if k=0 then Z.length-1 else k-1) 0
theorem k8 {Z:List Int}{k:Nat}(hk:k<Z.length):atI (Z.map V.int) ((k:Int)-1)=some (.int (prv Z k)):=by
 unfold prv
 cases k with
 | zero =>
  have el:Z[Z.length-1]? = some (Z[Z.length-1]'(by lia)):=xp (by lia)
  rw[if_pos rfl,xu,el]
  unfold atI ixN
  rw[wW]
  simp
  rw[if_pos (by lia)]
  simp only[Option.bind_some]
  rw[show (-1+(Z.length:Int)).toNat=Z.length-1 by lia,el];rfl
 | succ k =>
  have el:Z[k]? = some (Z[k]'(by lia)):=xp (by lia)
  rw[if_neg (by lia),xu,show k+1-1=k by lia,el,show ((k+1:Nat):Int)-1=(k:Int) by lia]
  exact fu (by rw[xW,el];rfl)
theorem mD:∀{Z:List Int},¬ Z.Nodup->∃Y:List Int,Y.length<Z.length/\∀k,k∈Z->k∈Y
 | [],h=>absurd Ee h
 | x :: t,h=>by
  by_cases c:x∈t
  ·exact ⟨t,y6 _,λk hk=>(xK.mp hk).elim (λz=>z ▸ c) id⟩
  ·obtain ⟨Y,l,s⟩:=mD (Z:=t) λz=>h (AR.mpr ⟨c,z⟩)
   exact ⟨x :: Y,Nat.succ_lt_succ l,λk hk=>(xK.mp hk).elim (λz=>z ▸ xN) λz=>xR _ (s k z)⟩
theorem oU {us Z:List Int}(nu:us.Nodup)(h:∀k,k∈us↔k∈Z):us.length=Z.length↔Z.Nodup:=by
 constructor
 ·intro e
  by_cases c:Z.Nodup
  ·exact c
  ·obtain ⟨Y,l,s⟩:=mD c
   have:=z6 nu λx hx=>s x ((h x).mp hx)
   lia
 ·intro nd
  exact ((BG nu nd).mpr h).length_eq
theorem iE {a b:Nat}:(V.int (a:Int)=V.int (b:Int))↔a=b:=⟨λz=>by injection z with z;lia,λz=>by rw[z]⟩
theorem getD_at {Z:List Int}{k:Nat}{v:Int}(e:Z[k]? = some v):Z.getD k 0=v:=by rw[xu,e];rfl
section
variable  {P:xA}{w:xQ}{K:wY}{mg:Str->Option xb}{base:Heap}{f T:Addr}{fd:yd}
end
def IsR (ns:List (List Int))(Z:List Int):Prop:=Z≠[]/\Z.Nodup/\∀k,k<Z.length->[prv Z k,Z.getD k 0]∈ns
def stp (Z:List Int)(i:Nat):List (List Int):=(yj i).map λk=>[prv Z k,Z.getD k 0]
theorem sf (Z:List Int)(i:Nat):stp Z (i+1)=stp Z i++[[prv Z i,Z.getD i 0]]:=by
 unfold stp
 rw[D4,xq];rfl
theorem kq {α:Type}{f:α -> Addr}{us:List α}{i:Nat}{x:V}(e:(us.map λu=>V.ref (f u))[i]? = some x):∃u,us[i]? = some u/\x = .ref (f u):=by
 rw[xW] at e
 cases h:us[i]? with
 | none=>rw[h] at e;cases e
 | some u=>rw[h] at e;exact ⟨u,rfl,(x9 e).symm⟩
abbrev uN:Sp:=λvs H Q _=>∃(p:Addr) (Z:List Int),vs=[.ref p]/\H p=some (.tup (Z.map V.int))/\Z.length<=500/\∀(l:Addr) (us:List (Addr×List Int)) (H':Hp),aK H H'->H' l=some (.lst (us.map λu =>.ref u.1))->Tus H' us->us.map (·.2)=stp Z Z.length->Q (.ref l) H'
@[irreducible] def uh:Sp:=uN
theorem jq {vs:List V}{H:Hp}{Q:VK}{E:XK}:uh vs H Q E↔uN vs H Q E:=by
 delta uh
 exact zt
section
variable  {P:xA}{w:xQ}{K:wY}{mg:Str->Option xb}{base:Heap}{f T:Addr}{fd:yd}
theorem jJ:aQ ["places"] ["places"] (aB dY):=⟨rfl,rfl,rfl,by decide +kernel,rfl,by decide +kernel,by decide +kernel⟩
theorem cH:(["at", "place", "places"]:List Str).Nodup:=by decide +kernel
theorem jK (F:Fun K "round_arrows" "round_arrows" dY f fd)(B:Blt mg):bG P w K mg base CX0 1 f fd ["places"] uh:=by
 refine F.ok jJ (λvs H Q E h =>?_) (λcdv A outer s H vs Q E hr h =>?_)
 ·obtain ⟨_,_,rfl,_⟩:=jq.mp h
  rfl
 obtain ⟨p,Z,rfl,ep,l5,q⟩:=jq.mp h
 refine ⟨_,(@ai _ _ _ (@aq _ _ _ _ (bj ["at", "place", "places"] [none,none,some 0] rfl (tE rfl B.b_enumerate (@aa _ _ _ _ _ (pv 0) af rfl)) rfl (λ_ _ _ _ _=>(lX (K:=K) (i:=0) (j:=1) cH rfl rfl (Or.inl rfl) (Or.inl rfl))) (λ_ _ _ _ _=>bF) (λ_ _ _ _ _=>(@aN _ _ _ _ _ (@aa _ _ _ _ _ (@au _ _ _ _ _ _ _ (fv (K:=K)) (pv 2) (@aE _ _ _ _ _ _ _ _ cY (pv 0) ag) (λ_ _=>rfl)) (@aa _ _ _ _ _ (pv 1) af rfl) rfl)))))),?_⟩
 refine ⟨_,rfl,p,rfl,.inr ⟨⟨_,SqT.of ep⟩,qp (xs:=Z.map V.int) (λi ys H'=>aK H H'/\∃us:List (Addr×List Int),ys=us.map (λu =>.ref u.1)/\Tus H' us/\us.map (·.2)=stp Z i) (by decide) ⟨aK.refl _,[],rfl,(λu hu=>nomatch hu),rfl⟩ (by rw[wW];exact aR (by lia)) (λi ys H' _ k=>SqT.of (k.1 _ _ ep)) ?_ ?_⟩⟩
 ·rintro i x ys H1 T hx hy hT ⟨s1,us,rfl,tu,eu⟩ R1 R0 r1 r0
  obtain ⟨v,ev,rfl⟩:=iw hx
  have hi:=(xv.mp ev).1
  have gT:=ab hT (.tup [.int (i:Nat),.int v])
  have ep2:=(s1.trans gT) _ _ ep
  refine aS ⟨_,rfl,_,rfl,_,_,rfl,rfl,p,_,_,_,rfl,rfl,SqT.of ep2,k8 hi,_,rfl,(by show 2<=xf;decide),λc hc=>r1 _ _ ⟨(s1.trans gT).trans (ab hc _),us++[(c,[prv Z i,v])],by rw[xq];rfl,Tus.snoc ((tu.same gT).same (ab hc _)) (u:=(c,[prv Z i,v])) ae,?_⟩⟩
  rw[xq,eu,sf,getD_at ev];rfl
 ·rintro ys H1 hy ⟨s1,us,rfl,tu,eu⟩ l hl
  rw[wW] at eu
  exact q l us _ (s1.trans (ab hl _)) ae (tu.same (ab hl _)) eu
end
abbrev kr:Sp:=λvs H Q _=>∃(r p:Addr) (m:Nat) (ts:List (Addr×List Int)) (Z:List Int),vs=[.ref r,.ref p]/\Wb H r m ts/\H p=some (.tup (Z.map V.int))/\Z.length<=200/\∀(b:Bool) H',aK H H'->(b=true↔IsR (ts.map (·.2)) Z)->Q (.bl b) H'
@[irreducible] def bN:Sp:=kr
theorem cS {vs:List V}{H:Hp}{Q:VK}{E:XK}:bN vs H Q E↔kr vs H Q E:=by
 delta bN
 exact zt
section
variable  {P:xA}{w:xQ}{K:wY}{mg:Str->Option xb}{base:Heap}{f T:Addr}{fd:yd}
theorem qA:aQ ["web", "places"] ["web", "places"] (aB jg):=⟨rfl,rfl,rfl,by decide +kernel,rfl,by decide +kernel,by decide +kernel⟩
theorem fH:(["arrow", "web"]:List Str).Nodup:=by decide +kernel
theorem qB (F:Fun K "is_round" "is_round" jg f fd)(B:Blt mg)(cRoundArrows:Cal P w K mg base 1 "round_arrows" ["places"] uh):bG P w K mg base CX0 2 f fd ["web", "places"] bN:=by
 refine F.ok qA (λvs H Q E h =>?_) (λcdv A outer s H vs Q E hr h =>?_)
 ·obtain ⟨_,_,_,_,_,rfl,_⟩:=cS.mp h
  rfl
 obtain ⟨r,p,m,ts,Z,rfl,W,ep,l5,q⟩:=cS.mp h
 refine ⟨_,(@ah _ _ _ _ _ (@aO _ _ _ _ _ _ _ _ (PW.pt (ck (aj bE (aA aX rfl B.b_len cu (@aa _ _ _ _ _ (pv 1) af rfl)) ag (ay _)) (cx (aj qY (aA iu rfl B.b_len cu (@aa _ _ _ _ _ (bb (i9 (w:=w) rfl hr.hd) rfl B.b_set sd (@aa _ _ _ _ _ (pv 1) af rfl)) af rfl)) (aA aX rfl B.b_len cu (@aa _ _ _ _ _ (pv 1) af rfl)) (ay _))))) (@ai _ _ _ (@aq _ _ _ _ lJ)) ax)
  (@ai _ _ _ (@aq _ _ _ _ (aA (dI rfl) rfl B.b_all hJ (@aa _ _ _ _ _ (bj ["arrow", "web"] [none,some 0] rfl (@cC _ _ _ _ (ao cRoundArrows hr (by decide) rfl (@aa _ _ _ _ _ (pv 1) af rfl))) rfl (λ_ _ _ _ _=>(aD (i:=0) fH rfl (Or.inl rfl))) (λ_ _ _ _ _=>bF) (λ_ _ _ _ _=>(bU (kS (hu8 hr)) (pv 0) (@au _ _ _ _ _ _ _ (fv (K:=K)) (pv 1) ag (λ_ _=>rfl)) rfl))) af rfl))))),?_⟩
 have lz:(Z.map V.int).length=Z.length:=wW _
 refine ⟨_,rfl,p,_,rfl,.inr (SqT.of ep),rfl,_,rfl,?_⟩
 rw[lz]
 by_cases z0:Z.length=0
 ·rw[decide_eq_true (by rw[z0];rfl)]
  exact aS (aS (q false H (aK.refl _) ⟨λz=>(by cases z),λz=>absurd (AW.mp z0) z.1⟩))
 rw[decide_eq_false (by intro z;injection z with z;lia)]
 have zn:Z≠[]:=λz=>z0 (by rw[z];rfl)
 refine aT ⟨_,rfl,p,Z,rfl,.inr (SqT.of ep),by lia,λa us ha mu nu lu =>?_⟩
 have ga:=ab ha (jE w a (us.map V.int))
 have sl:=oU nu mu
 refine ⟨a,us.map V.int,rfl,ae,by rw[wW];lia,?_⟩
 generalize upd H a (jE w a (us.map V.int))=H1 at ga
 refine ⟨_,rfl,p,_,rfl,.inr (SqT.of (ga _ _ ep)),rfl,_,rfl,?_⟩
 rw[lz,wW]
 by_cases nd:Z.Nodup
 case neg =>
  rw[decide_eq_false (by rw[iE,sl];exact nd)]
  exact aS (q false _ ga ⟨λz=>(by cases z),λz=>absurd z.2.1 nd⟩)
 refine uG (iE.mpr (sl.mpr nd)) ?_
 have ep1:=ga _ _ ep
 refine ⟨_,rfl,jq.mpr ⟨p,Z,rfl,ep1,by lia,λl us H2 s2 el tu eu =>?_⟩⟩
 have s12:=ga.trans s2
 obtain ⟨t,e1,e2⟩:=(W.same s12).at'
 have lu:us.length<=200:=by have:=congrArg List.length eu;rw[wW] at this;unfold stp at this;rw[wW,y9] at this;lia
 refine ⟨l,rfl,⟨_,SqL.of el⟩,dR (xs:=us.map λu =>.ref u.1) (λi ys H'=>H'=H2/\ys=((us.take i).map λu=>decide (u.2∈ts.map (·.2))).map V.bl) ⟨rfl,rfl⟩ (by rw[wW];exact aR (by lia)) (λi ys H' _ k=>by rw[k.1];exact SqL.of el) ?_ ?_⟩
 ·rintro i x ys H3 hx hy ⟨eH,rfl⟩ R1 R0 r1 r0
  obtain ⟨u,hu,rfl⟩:=kq hx
  rw[eH]
  refine aS ⟨_,rfl,_,rfl,r,_,1,_,rfl,rfl,SqT.of e1,rfl,t,u.1,ts,u.2,rfl,rfl,e2,(W.same s12).tup,tu u (xE hu),r1 _ _ ⟨rfl,?_⟩⟩
  rw[y8,hu,xq,xq];rfl
 ·rintro ys H3 hy ⟨eH,rfl⟩ l2 hl2
  rw[eH] at hl2 ⊢
  rw[wW,yq (xg _)]
  refine ⟨l2,_,rfl,SqL.of ae,q _ _ (s12.trans (ab hl2 _)) ?_⟩
  rw[Be,yU]
  constructor
  ·intro h
   refine ⟨zn,nd,λk hk =>?_⟩
   have hm:[prv Z k,Z.getD k 0]∈us.map (·.2):=by
    rw[eu];exact yG.mpr ⟨k,yf.mpr hk,rfl⟩
   obtain ⟨u,hu,e⟩:=yG.mp hm
   rw[<- e]
   exact of_decide_eq_true (h u hu)
  ·intro h u hu
   have hm:u.2∈us.map (·.2):=zr hu
   rw[eu] at hm
   obtain ⟨k,hk,e⟩:=yG.mp hm
   exact decide_eq_true (by rw[<- e];exact h.2.2 k (yf.mp hk))
end
open PySem L2
theorem aV (ps:List Int):(ps.map V.int).all gm=true:=by
 rw[Be,yU]
 intro x _
 rfl
theorem gC {α:Type}{K:wY}{a:Addr}{Z:List Int}{k:Nat}{te:TE}{τ:St}{H:Hp}{Q:VK}(f:Int -> α)(c:α -> V)(e:H a=some (.tup (Z.map V.int)))(lz:Z.length<=5000)(hs:∀v∈Z,∀R:VK,R (c (f v)) H->te (τ.set k (some (.int v))) H R)
  (hd:∀l,H l=none->Q (.ref l) (upd H l (.lst ((Z.map f).map c)))):eS (Itt K a) (dD k) (λ_ H Q=>Q true H) te τ Q H:=by
 have lm:(Z.map V.int).length=Z.length:=wW _
 refine gP (xs:=Z.map V.int) (λi ys H'=>H'=H/\ys=((Z.take i).map f).map c) ⟨rfl,rfl⟩ (by rw[lm];exact aR lz) (λi ys H' _ h=>by rw[h.1];exact SqT.of e) ?_ ?_
 ·rintro i x ys H' hx _ ⟨rfl,rfl⟩ R1 R0 r1 r0
  obtain ⟨v,ev,rfl⟩:=iw hx
  refine aS (hs v (xE ev) _ (r1 _ _ ⟨rfl,?_⟩))
  rw[take_snoc ev,xq];rfl
 ·rintro ys H' _ ⟨rfl,rfl⟩ l hl
  rw[lm,zo]
  exact hd l hl
theorem uO {α:Type}{K:wY}{a:Addr}{Z:List Int}{k:Nat}{te:TE}{τ:St}{H:Hp}{Q:VK}(f:Int -> α)(c:α -> V)(e:H a=some (.lst (Z.map V.int)))(lz:Z.length<=5000)(hs:∀v∈Z,∀R:VK,R (c (f v)) H->te (τ.set k (some (.int v))) H R)
  (hd:∀l,H l=none->Q (.ref l) (upd H l (.lst ((Z.map f).map c)))):eS (Itl K a) (dD k) (λ_ H Q=>Q true H) te τ Q H:=by
 have lm:(Z.map V.int).length=Z.length:=wW _
 refine dR (xs:=Z.map V.int) (λi ys H'=>H'=H/\ys=((Z.take i).map f).map c) ⟨rfl,rfl⟩ (by rw[lm];exact aR lz) (λi ys H' _ h=>by rw[h.1];exact SqL.of e) ?_ ?_
 ·rintro i x ys H' hx _ ⟨rfl,rfl⟩ R1 R0 r1 r0
  obtain ⟨v,ev,rfl⟩:=iw hx
  refine aS (hs v (xE ev) _ (r1 _ _ ⟨rfl,?_⟩))
  rw[take_snoc ev,xq];rfl
 ·rintro ys H' _ ⟨rfl,rfl⟩ l hl
  rw[lm,zo]
  exact hd l hl
inductive Tr where
 | ring (Z:List Int)
 | rows (rs:List (List Int×Int))
 | part (v:Int) (a b:Tr)
def laid (rs:List (List Int×Int))(v:Int):Int:=((rs.filter λr=>decide (v∈r.1)).map (·.2)).sum
def mE (ns:List (List Int))(T Kp:List Int)(r:List Int×Int):Prop:=1<=r.2/\IsR ns r.1/\(∀v∈r.1,v∉T)/\∃v∈r.1,v∉Kp
def cA (m:Nat)(ns:List (List Int))(ws T Kp:List Int)(rs:List (List Int×Int)):Prop:=(∀r∈rs,mE ns T Kp r)/\∀i:Nat,i<m->(i:Int)∉Kp->laid rs i<=ws.getD i 0
def wsum (ws T:List Int):Int:=(T.map λv=>ws.getD v.toNat 0).sum
def mF (x y:MnR.Rs):MnR.Rs:=if MnR.lt y x=true then y else x
def both:Option MnR.Rs->Option MnR.Rs->Option MnR.Rs
 | some x,some y=>some (mF x y)
 | _,_=>none
def Opn (m:Nat)(T Kp:List Int)(v:Int):Prop:=0<=v/\v<m/\v∉T/\v∉Kp
open Classical in
noncomputable def shw (m:Nat)(ns:List (List Int))(ws:List Int):List Int->List Int->Tr->Option MnR.Rs
 | _,Kp,.ring Z=>if IsR ns Z/\∀v∈Z,v∈Kp then some none else none
 | T,Kp,.rows rs=>if cA m ns ws T Kp rs then some (some (wsum ws T+(rs.map (·.2)).sum)) else none
 | T,Kp,.part v a b=>if Opn m T Kp v then both (shw m ns ws (T++[v]) Kp a) (shw m ns ws T (Kp++[v]) b) else none
def Rows (c:Bool)(H:Hp)(p:Addr)(rs:List (List Int×Int)):Prop:=∃us:List (Addr×Addr×List Int×Int),H p=some (cond c (.lst (us.map λu =>.ref u.1)) (.tup (us.map λu =>.ref u.1)))/\(∀u∈us,H u.1=some (.tup [.ref u.2.1,.int u.2.2.2])/\H u.2.1=some (.tup (u.2.2.1.map V.int))/\u.2.2.1.length<=200)/\us.map (·.2.2)=rs/\us.length<=200
theorem Rows.same {c:Bool}{H H':Hp}{p:Addr}{rs:List (List Int×Int)}(h:Rows c H p rs)(s:aK H H'):Rows c H' p rs:=by
 obtain ⟨us,h1,h2,h3,h4⟩:=h
 exact ⟨us,s _ _ h1,λu hu=>⟨s _ _ (h2 u hu).1,s _ _ (h2 u hu).2.1,(h2 u hu).2.2⟩,h3,h4⟩
def bJ (c:Bool)(H:Hp):Nat->Addr->Tr->Prop
 | _,a,.ring Z=>∃p,H a=some (.tup [.str "round",.ref p])/\H p=some (.tup (Z.map V.int))/\Z.length<=200
 | _,a,.rows rs=>∃p,H a=some (.tup [.str "shares",.ref p])/\Rows c H p rs
 | n,a,.part v x y=>∃k p q,n=k+1/\H a=some (.tup [.str "part",.int v,.ref p,.ref q])/\bJ c H k p x/\bJ c H k q y
theorem bJ.same {c:Bool}{H H':Hp}(s:aK H H'):∀{t:Tr} {n:Nat} {a:Addr},bJ c H n a t->bJ c H' n a t
 | .ring Z,n,a,h=>by
  obtain ⟨p,h1,h2,h3⟩:=h
  exact ⟨p,s _ _ h1,s _ _ h2,h3⟩
 | .rows rs,n,a,h=>by
  obtain ⟨p,h1,h2⟩:=h
  exact ⟨p,s _ _ h1,h2.same s⟩
 | .part v x y,n,a,h=>by
  obtain ⟨k,p,q,e,h1,h2,h3⟩:=h
  exact ⟨k,p,q,e,s _ _ h1,bJ.same s h2,bJ.same s h3⟩
theorem bJ.mono {c:Bool}{H:Hp}:∀{t:Tr} {n n':Nat} {a:Addr},n<=n'->bJ c H n a t->bJ c H n' a t
 | .ring Z,n,n',a,l,h=>h
 | .rows rs,n,n',a,l,h=>h
 | .part v x y,n,n',a,l,h=>by
  obtain ⟨k,p,q,rfl,h1,h2,h3⟩:=h
  obtain ⟨k',rfl⟩:∃k',n'=k'+1:=⟨n'-1,by lia⟩
  exact ⟨k',p,q,rfl,h1,bJ.mono (by lia) h2,bJ.mono (by lia) h3⟩
def Shn (H:Hp)(v:V):Option MnR.Rs->Prop
 | none=>v = .non
 | some x=>∃a,v = .ref a/\H a=some (.tup (MnR.its x))
theorem Shn.same {H H':Hp}{v:V}{x:Option MnR.Rs}(h:Shn H v x)(s:aK H H'):Shn H' v x:=by
 cases x with
 | none=>exact h
 | some x =>
  obtain ⟨a,e,h⟩:=h
  exact ⟨a,e,s _ _ h⟩
abbrev oV:Sp:=λvs H Q _=>∃(r t k:Addr) (m:Nat) (ts:List (Addr×List Int)) (T Kp:List Int) (v:Int),vs=[.ref r,.ref t,.ref k,.int v]/\Wb H r m ts/\H t=some (.tup (T.map V.int))/\H k=some (.tup (Kp.map V.int))/\∀b:Bool,(b=true↔Opn m T Kp v)->Q (.bl b) H
@[irreducible] def k9:Sp:=oV
theorem fU {vs:List V}{H:Hp}{Q:VK}{E:XK}:k9 vs H Q E↔oV vs H Q E:=by
 delta k9
 exact zt
section
variable  {P:xA}{w:xQ}{K:wY}{mg:Str->Option xb}{base:Heap}{f T:Addr}{fd:yd}
theorem sg:aQ ["web", "taken", "kept", "place"] ["web", "taken", "kept", "place"] (aB kW):=⟨rfl,rfl,rfl,by decide +kernel,rfl,by decide +kernel,by decide +kernel⟩
theorem si (F:Fun K "is_open" "is_open" kW f fd)(B:Blt mg):bG P w K mg base CX0 1 f fd ["web", "taken", "kept", "place"] k9:=by
 refine F.ok sg (λvs H Q E h =>?_) (λcdv A outer s H vs Q E hr h =>?_)
 ·obtain ⟨_,_,_,_,_,_,_,_,rfl,_⟩:=fU.mp h
  rfl
 obtain ⟨r,t,k,m,ts,T,Kp,v,rfl,W,et,ek,q⟩:=fU.mp h
 refine ⟨_,(@ai _ _ _ (@aq _ _ _ _ (mS (qZ wk gj ag (pv 3) (@au _ _ _ _ _ _ _ av (pv 0) ag (λ_ _=>rfl))) (mS (bU bV (pv 3) (pv 1) rfl) (qR (bU bV (pv 3) (pv 2) rfl)))))),?_⟩
 obtain ⟨tt,e1,e2⟩:=W.at'
 refine ⟨_,rfl,_,_,rfl,rfl,_,rfl,bR (λz0 =>?_) (λz0 =>?_)⟩
 case refine_2=>exact ⟨_,rfl,aT (q false ⟨λz=>(by cases z),λz=>absurd (decide_eq_true z.1) z0⟩)⟩
 refine ⟨_,rfl,r,_,0,_,rfl,rfl,SqT.of e1,rfl,_,_,rfl,rfl,_,rfl,bR (λz1 =>?_) (λz1 =>?_)⟩
 case refine_2=>exact q false ⟨λz=>(by cases z),λz=>absurd (decide_eq_true z.2.1) z1⟩
 refine ⟨_,rfl,_,rfl,t,_,rfl,.inr (SqT.of et),rfl,aV T,_,rfl,?_⟩
 show if (if true=true then !inV (.int v) (T.map V.int) else _)=true then _ else _
 rw[if_pos rfl,eG]
 by_cases h2:v∈T
 ·rw[decide_eq_true h2]
  exact aT (q false ⟨λz=>(by cases z),λz=>absurd h2 z.2.2.1⟩)
 rw[decide_eq_false h2]
 refine aS ⟨_,rfl,_,rfl,k,_,rfl,.inr (SqT.of ek),rfl,aV Kp,?_⟩
 refine q _ ?_
 show (!inV (.int v) (Kp.map V.int))=true↔_
 rw[eG]
 exact ⟨λz=>⟨of_decide_eq_true z0,of_decide_eq_true z1,h2,by simpa using z⟩,λz=>by simpa using z.2.2.2⟩
end
@[irreducible] def lb (P:xA)(w:xQ)(K:wY)(mg:Str->Option xb)(base:Heap):Sp:=λvs H Q _=>∃(f r k p:Addr) (m:Nat) (ts:List (Addr×List Int)) (Kp Z:List Int),vs=[.ref f,.ref r,.ref k,.ref p]/\jG P w K mg base 2 f ["web", "places"] bN/\Wb H r m ts/\H k=some (.tup (Kp.map V.int))/\H p=some (.tup (Z.map V.int))/\Z.length<=200/\(∀(b:Option MnR.Rs) (v:V) (H':Hp),aK H H'->Shn H' v b->((IsR (ts.map (·.2)) Z/\∀v∈Z,v∈Kp)->b=some none)->(¬ (IsR (ts.map (·.2)) Z/\∀v∈Z,v∈Kp)->b=none)->Q v H')
theorem fV {P:xA}{w:xQ}{K:wY}{mg:Str->Option xb}{base:Heap}{vs:List V}{H:Hp}{Q:VK}{E:XK}:lb P w K mg base vs H Q E↔∃(f r k p:Addr) (m:Nat) (ts:List (Addr×List Int)) (Kp Z:List Int),vs=[.ref f,.ref r,.ref k,.ref p]/\jG P w K mg base 2 f ["web", "places"] bN/\Wb H r m ts/\H k=some (.tup (Kp.map V.int))/\H p=some (.tup (Z.map V.int))/\Z.length<=200/\(∀(b:Option MnR.Rs) (v:V) (H':Hp),aK H H'->Shn H' v b->((IsR (ts.map (·.2)) Z/\∀v∈Z,v∈Kp)->b=some none)->(¬ (IsR (ts.map (·.2)) Z/\∀v∈Z,v∈Kp)->b=none)->Q v H'):=by
 delta lb
 exact zt
section
variable  {P:xA}{w:xQ}{K:wY}{mg:Str->Option xb}{base:Heap}{f T:Addr}{fd:yd}
theorem mG:aQ ["closes", "web", "kept", "ring"] ["closes", "web", "kept", "ring"] (aB fS):=⟨rfl,rfl,rfl,by decide +kernel,rfl,by decide +kernel,by decide +kernel⟩
theorem d7:(["place", "kept"]:List Str).Nodup:=by decide +kernel
theorem mH (F:Fun K "kept_shows" "kept_shows" fS f fd)(B:Blt mg):bG P w K mg base CX0 4 f fd ["closes", "web", "kept", "ring"] (lb P w K mg base):=by
 refine F.ok mG (λvs H Q E h =>?_) (λcdv A outer s H vs Q E hr h =>?_)
 ·obtain ⟨_,_,_,_,_,_,_,_,rfl,_⟩:=fV.mp h
  rfl
 obtain ⟨f',r,k,p,m,ts,Kp,Z,rfl,CF,W,ek,ep,lz,q⟩:=fV.mp h
 refine ⟨_,(@ah _ _ _ _ _ (@aO _ _ _ _ _ _ _ _ (PW.pt (cK (bY (mz 2 (pv 0) hr (by decide) (@aa _ _ _ _ _ (pv 1) (@aa _ _ _ _ _ (pv 3) af rfl) rfl))) (cg (bY (aA (dI rfl) rfl B.b_all hJ (@aa _ _ _ _ _ (bj ["place", "kept"] [none,some 2] rfl (@cW _ _ _ _ (pv 3)) rfl (λ_ _ _ _ _=>(aD (i:=0) d7 rfl (Or.inl rfl))) (λ_ _ _ _ _=>bF) (λ_ _ _ _ _=>(bU (eX (K:=K)) (pv 0) (pv 1) rfl))) af rfl)))))) (@ai _ _ _ (@aq _ _ _ _ (@aN _ _ _ _ _ (@aa _ _ _ _ _ aU af rfl)))) ax)
  (@ai _ _ _ (@aq _ _ _ _ eN))),?_⟩
 refine ⟨_,rfl,_,_,_,rfl,CF,_,rfl,_,rfl,cS.mpr ⟨r,p,m,ts,Z,rfl,W,ep,lz,λb1 H1 s1 h1=>⟨_,rfl,?_⟩⟩⟩
 cases b1 with
 | false =>
  refine aT (aT (q none _ _ s1 rfl (λz =>?_) λ_=>rfl))
  exact absurd (h1.mpr z.1) xw
 | true =>
  refine aS ⟨_,rfl,p,rfl,⟨_,SqT.of (s1 _ _ ep)⟩,gC (λv=>decide (v∈Kp)) V.bl (s1 _ _ ep) (by lia) (λv hv R hR =>?_) λl hl =>?_⟩
  ·refine ⟨_,rfl,_,rfl,k,_,rfl,.inr (SqT.of (s1 _ _ ek)),rfl,aV Kp,?_⟩
   show R (V.bl (inV (.int v) (Kp.map V.int))) _
   rw[eG]
   exact hR
  ·refine ⟨l,_,rfl,SqL.of ae,_,rfl,?_⟩
   have s2:=s1.trans (ab hl (.lst ((Z.map λv=>decide (v∈Kp)).map V.bl)))
   generalize upd H1 l (.lst ((Z.map λv=>decide (v∈Kp)).map V.bl))=H2 at s2
   by_cases c:∀v∈Z,v∈Kp
   ·rw[show (Z.map λv=>decide (v∈Kp)).all id=true by rw[Be,yU];exact λv hv=>decide_eq_true (c v hv)]
    refine aS ⟨(by show 1<=xf;decide),λa ha=>q (some none) _ _ (s2.trans (ab ha _)) ⟨a,rfl,ae⟩ (λ_=>rfl) λz=>absurd ⟨h1.mp rfl,c⟩ z⟩
   ·rw[show (Z.map λv=>decide (v∈Kp)).all id=false by
     rw[zH,Ne,Be,yU]
     exact λz=>c λv hv=>of_decide_eq_true (z v hv)]
    exact aT (q none _ _ s2 rfl (λz=>absurd z.2 c) λ_=>rfl)
end
open PySem L2
theorem aK.fc {H H':Hp}{l:Addr}(s:aK H H')(hl:H l=none)(o:HO):aK H (upd H' l o):=λb u e=>by
 rw[aG (aP e hl)]
 exact s b u e
theorem ui {K:wY}{a:Addr}{xs:List V}{g:TG}{tb:TS}{D:Ends}{σ:St}{H:Hp}(Pv:Nat->St->Hp->Prop)(hp:H a=some (.lst xs)\/H a=some (.tup xs))(h0:Pv 0 σ H)(hl:∀i σ H',Pv i σ H'->H' a=H a)
  (hs:∀i x σ H,xs[i]? = some x->Pv i σ H->g x σ H λσ2 H2=>tb { D with nx:=Pv (i+1),ct:=Pv (i+1),bk:=D.nx } σ2 H2) (hd:∀σ H,Pv xs.length σ H->D.nx σ H) :
  ((∃xs,SqL K H a xs)/\vn (Itl K a) g tb D σ H)\/((∃xs,SqT K H a xs)/\vn (Itt K a) g tb D σ H):=by
 rcases hp with hp | hp
 ·exact .inl ⟨⟨_,SqL.of hp⟩,dF Pv h0 (λi σ H' _ z=>SqL.of ((hl i σ H' z).trans hp)) hs hd⟩
 ·exact .inr ⟨⟨_,SqT.of hp⟩,oo Pv h0 (λi σ H' _ z=>SqT.of ((hl i σ H' z).trans hp)) hs hd⟩
theorem rep0:∀m:Nat,(yg m [V.int 0]).flatten=(yg m (0:Int)).map V.int
 | 0=>rfl
 | m+1=>by rw[yS,y7,rep0 m,yS];rfl
theorem nY {Z:List Int}(nd:Z.Nodup){j:Nat}{v:Int}(e:Z[j]? = some v):v∉Z.take j:=λh=>by
 have h1:(Z.take (j+1)).Nodup:=nd.sublist (yA _ _)
 rw[y8,e] at h1
 exact (DI.mp h1).2.2 v h v (by simp) rfl
theorem qC (rs:List (List Int×Int))(Z:List Int)(s v:Int):laid (rs++[(Z,s)]) v=laid rs v+if v∈Z then s else 0:=by
 unfold laid
 rw[BL,xq,CM]
 by_cases h:v∈Z
 ·rw[AY (by exact decide_eq_true h),if_pos h];simp
 ·rw[AZ (by exact λz=>h (of_decide_eq_true z)),if_neg h];simp
def Lay (m:Nat)(H:Hp)(U:Addr)(g:Int->Int):Prop:=∃L:List Int,H U=some (.lst (L.map V.int))/\L.length=m/\∀j:Nat,j<m->L.getD j 0=g j
theorem IsR.inr {m:Nat}{ns:List (List Int)}(O:Ok m ns){Z:List Int}(h:IsR ns Z):∀v∈Z,0<=v/\v<m:=λv hv=>by
 obtain ⟨k,hk,e⟩:=List.mem_iff_getElem.mp hv
 obtain ⟨a,b,e2,_,_,b0,b1⟩:=O _ (h.2.2 k hk)
 injection e2 with _ e2
 injection e2 with e2 _
 rw[xu,xp hk,e] at e2
 have e2:v=b:=e2
 lia
theorem Wb.ok {H:Hp}{r:Addr}{m:Nat}{ts:List (Addr×List Int)}(W:Wb H r m ts):Ok m (ts.map (·.2)):=λp hp=>by
 obtain ⟨u,hu,rfl⟩:=yG.mp hp
 obtain ⟨a,b,e,h⟩:=W.pr u hu
 exact ⟨a,b,e,h⟩
theorem jL {ws:List Int}{n:Nat}(h:n<ws.length):atI (ws.map V.int) (n:Int)=some (.int (ws.getD n 0)):=fu (by rw[xW,xp h,xu,xp h];rfl)
@[irreducible] def iF (P:xA)(w:xQ)(K:wY)(mg:Str->Option xb)(base:Heap):Sp:=λvs H Q _=>∃(f r t k p:Addr) (m:Nat) (ts:List (Addr×List Int)) (T Kp Z:List Int) (s:Int),vs=[.ref f,.ref r,.ref t,.ref k,.ref p,.int s]/\jG P w K mg base 2 f ["web", "places"] bN/\Wb H r m ts/\H t=some (.tup (T.map V.int))/\H k=some (.tup (Kp.map V.int))/\H p=some (.tup (Z.map V.int))/\Z.length<=200/\∀(b:Bool) (H':Hp),aK H H'->(b=true↔mE (ts.map (·.2)) T Kp (Z,s))->Q (.bl b) H'
theorem ff {P:xA}{w:xQ}{K:wY}{mg:Str->Option xb}{base:Heap}{vs:List V}{H:Hp}{Q:VK}{E:XK}:iF P w K mg base vs H Q E↔∃(f r t k p:Addr) (m:Nat) (ts:List (Addr×List Int)) (T Kp Z:List Int) (s:Int),vs=[.ref f,.ref r,.ref t,.ref k,.ref p,.int s]/\jG P w K mg base 2 f ["web", "places"] bN/\Wb H r m ts/\H t=some (.tup (T.map V.int))/\H k=some (.tup (Kp.map V.int))/\H p=some (.tup (Z.map V.int))/\Z.length<=200/\∀(b:Bool) (H':Hp),aK H H'->(b=true↔mE (ts.map (·.2)) T Kp (Z,s))->Q (.bl b) H':=by
 delta iF
 exact zt
section
variable  {P:xA}{w:xQ}{K:wY}{mg:Str->Option xb}{base:Heap}{f T:Addr}{fd:yd}
theorem qD:aQ ["closes", "web", "taken", "kept", "ring", "share"] ["closes", "web", "taken", "kept", "ring", "share"] (aB jf):=⟨rfl,rfl,rfl,by decide +kernel,rfl,by decide +kernel,by decide +kernel⟩
theorem eI:(["place", "taken"]:List Str).Nodup:=by decide +kernel
theorem fg:(["place", "kept"]:List Str).Nodup:=by decide +kernel
theorem qE (F:Fun K "is_share" "is_share" jf f fd)(B:Blt mg):bG P w K mg base CX0 4 f fd ["closes", "web", "taken", "kept", "ring", "share"] (iF P w K mg base):=by
 refine F.ok qD (λvs H Q E h =>?_) (λcdv A outer s H vs Q E hr h =>?_)
 ·obtain ⟨_,_,_,_,_,_,_,_,_,_,_,rfl,_⟩:=ff.mp h
  rfl
 obtain ⟨f',r,t,k,p,m,ts,T,Kp,Z,s,rfl,CF,W,et,ek,ep,lz,q⟩:=ff.mp h
 refine ⟨_,(@ah _ _ _ _ _ (@aO _ _ _ _ _ _ _ _ (PW.pt (ck (aj gj (pv 5) ag (ay _)) (ck (fO (bY (mz 2 (pv 0) hr (by decide) (@aa _ _ _ _ _ (pv 1) (@aa _ _ _ _ _ (pv 4) af rfl) rfl)))) (cx (bY (aA (gw rfl) rfl B.b_any k7 (@aa _ _ _ _ _ (bj ["place", "taken"] [none,some 2] rfl (@cW _ _ _ _ (pv 4)) rfl (λ_ _ _ _ _=>(aD (i:=0) eI rfl (Or.inl rfl))) (λ_ _ _ _ _=>bF) (λ_ _ _ _ _=>(bU (eX (K:=K)) (pv 0) (pv 1) rfl))) af rfl))))))) (@ai _ _ _ (@aq _ _ _ _ lJ)) ax)
  (@ai _ _ _ (@aq _ _ _ _ (aA (gw rfl) rfl B.b_any k7 (@aa _ _ _ _ _ (bj ["place", "kept"] [none,some 3] rfl (@cW _ _ _ _ (pv 4)) rfl (λ_ _ _ _ _=>(aD (i:=0) fg rfl (Or.inl rfl))) (λ_ _ _ _ _=>bF) (λ_ _ _ _ _=>(bU (fw (K:=K)) (pv 0) (pv 1) rfl))) af rfl))))),?_⟩
 refine ⟨_,rfl,_,_,rfl,rfl,_,rfl,bR (λz0 =>?_) λz0 =>?_⟩
 ·exact aS (q false _ (aK.refl _) ⟨λz=>(by cases z),λz=>absurd z.1 (by have:=of_decide_eq_true z0;show ¬ 1<=s;lia)⟩)
 have s0:1<=s:=by have:=mt decide_eq_true z0;lia
 refine ⟨_,rfl,_,_,_,rfl,CF,_,rfl,_,rfl,cS.mpr ⟨r,p,m,ts,Z,rfl,W,ep,lz,λb1 H1 s1 h1=>⟨_,rfl,?_⟩⟩⟩
 cases b1 with
 | false=>exact aS (aS (q false _ s1 ⟨λz=>(by cases z),λz=>absurd (h1.mpr z.2.1) xw⟩))
 | true =>
  refine aT ⟨_,rfl,p,rfl,⟨_,SqT.of (s1 _ _ ep)⟩,gC (λv=>decide (v∈T)) V.bl (s1 _ _ ep) (by lia) (λv hv R hR =>?_) λl hl =>?_⟩
  ·refine ⟨_,rfl,_,rfl,t,_,rfl,.inr (SqT.of (s1 _ _ et)),rfl,aV T,?_⟩
   show R (V.bl (inV (.int v) (T.map V.int))) _
   rw[eG]
   exact hR
  ·refine ⟨l,_,rfl,SqL.of ae,_,rfl,?_⟩
   have s2:=s1.trans (ab hl (.lst ((Z.map λv=>decide (v∈T)).map V.bl)))
   generalize upd H1 l (.lst ((Z.map λv=>decide (v∈T)).map V.bl))=H2 at s2
   by_cases c:∃v∈Z,v∈T
   ·rw[show (Z.map λv=>decide (v∈T)).any id=true by
     obtain ⟨v,h,h'⟩:=c
     rw[CN,Ad];exact ⟨v,h,decide_eq_true h'⟩]
    refine aS (q false _ s2 ⟨λz=>(by cases z),λz =>?_⟩)
    obtain ⟨v,h,h'⟩:=c
    exact absurd h' (z.2.2.1 v h)
   ·rw[show (Z.map λv=>decide (v∈T)).any id=false by
     rw[zH,Ne,CN,Ad]
     exact λ⟨v,h,z⟩=>c ⟨v,h,of_decide_eq_true z⟩]
    refine aT ⟨_,rfl,p,rfl,⟨_,SqT.of (s2 _ _ ep)⟩,gC (λv => !decide (v∈Kp)) V.bl (s2 _ _ ep) (by lia) (λv hv R hR =>?_) λl hl =>?_⟩
    ·refine ⟨_,rfl,_,rfl,k,_,rfl,.inr (SqT.of (s2 _ _ ek)),rfl,aV Kp,?_⟩
     show R (V.bl (!inV (.int v) (Kp.map V.int))) _
     rw[eG]
     exact hR
    ·refine ⟨l,_,rfl,SqL.of ae,q _ _ (s2.trans (ab hl _)) ?_⟩
     rw[CN,Ad]
     constructor
     ·rintro ⟨v,h,h'⟩
      refine ⟨s0,h1.mp rfl,λv h z=>c ⟨v,h,z⟩,v,h,by simpa using h'⟩
     ·rintro ⟨_,_,_,v,h,h'⟩
      exact ⟨v,h,by simpa using h'⟩
end
@[irreducible] def gD (P:xA)(w:xQ)(K:wY)(mg:Str->Option xb)(base:Heap):Sp:=λvs H Q _=>∃(f r wa t k p:Addr) (m:Nat) (ts:List (Addr×List Int)) (ws T Kp:List Int) (c:Bool) (rs:List (List Int×Int)),vs=[.ref f,.ref r,.ref wa,.ref t,.ref k,.ref p]/\jG P w K mg base 2 f ["web", "places"] bN/\Wb H r m ts/\m<=200/\(H wa=some (.lst (ws.map V.int))\/H wa=some (.tup (ws.map V.int)))/\ws.length=m/\H t=some (.tup (T.map V.int))/\(∀v∈T,0<=v/\v<m)/\T.length<=1000/\H k=some (.tup (Kp.map V.int))/\Rows c H p rs/\∀(v:V) (H':Hp) (b:Option MnR.Rs),aK H H'->Shn H' v b->(cA m (ts.map (·.2)) ws T Kp rs->b=some (some (wsum ws T+(rs.map (·.2)).sum)))->(¬ cA m (ts.map (·.2)) ws T Kp rs->b=none)->Q v H'
theorem d8 {P:xA}{w:xQ}{K:wY}{mg:Str->Option xb}{base:Heap}{vs:List V}{H:Hp}{Q:VK}{E:XK}:gD P w K mg base vs H Q E↔∃(f r wa t k p:Addr) (m:Nat) (ts:List (Addr×List Int)) (ws T Kp:List Int) (c:Bool) (rs:List (List Int×Int)),vs=[.ref f,.ref r,.ref wa,.ref t,.ref k,.ref p]/\jG P w K mg base 2 f ["web", "places"] bN/\Wb H r m ts/\m<=200/\(H wa=some (.lst (ws.map V.int))\/H wa=some (.tup (ws.map V.int)))/\ws.length=m/\H t=some (.tup (T.map V.int))/\(∀v∈T,0<=v/\v<m)/\T.length<=1000/\H k=some (.tup (Kp.map V.int))/\Rows c H p rs/\∀(v:V) (H':Hp) (b:Option MnR.Rs),aK H H'->Shn H' v b->(cA m (ts.map (·.2)) ws T Kp rs->b=some (some (wsum ws T+(rs.map (·.2)).sum)))->(¬ cA m (ts.map (·.2)) ws T Kp rs->b=none)->Q v H':=by
 delta gD
 exact zt
section
variable  {P:xA}{w:xQ}{K:wY}{mg:Str->Option xb}{base:Heap}{f T:Addr}{fd:yd}
theorem cv:aQ ["closes", "web", "weights", "taken", "kept", "rows", "used", "row", "place"] ["closes", "web", "weights", "taken", "kept", "rows"] (aB fe):=⟨rfl,rfl,rfl,by decide +kernel,rfl,by decide +kernel,by decide +kernel⟩
theorem df:(["place", "weights"]:List Str).Nodup:=by decide +kernel
theorem hV:(["row"]:List Str).Nodup:=by decide +kernel
theorem lh (F:Fun K "shares_show" "shares_show" fe f fd)(B:Blt mg)(cIsShare:Cal P w K mg base 4 "is_share" ["closes", "web", "taken", "kept", "ring", "share"] (iF P w K mg base)):bG P w K mg base CX0 5 f fd ["closes", "web", "weights", "taken", "kept", "rows"] (gD P w K mg base):=by
 refine F.ok cv (λvs H Q E h =>?_) (λcdv A outer s H vs Q E hr h =>?_)
 ·obtain ⟨_,_,_,_,_,_,_,_,_,_,_,_,_,rfl,_⟩:=d8.mp h
  rfl
 obtain ⟨f',r,wa,t,k,p,m,ts,ws,T,Kp,c,rs,rfl,CF,W,m2,hw,lw,et,tm,lt,ek,R,q⟩:=d8.mp h
 refine ⟨_,(@ah _ _ _ _ _ (@aH _ _ 6 _ _ _ _ cv.nd rfl (Or.inl rfl) (@aE _ _ _ _ _ _ _ _ rf (@aI _ _ _ _ (@aa _ _ _ _ _ ag af rfl)) (@au _ _ _ _ _ _ _ av (pv 1) ag (λ_ _=>rfl))) rfl (by first | exact .inl rfl | exact .inr rfl | assumption))
  (@ah _ _ _ _ _ (@cy _ _ _ _ _ _ _ _ yD rfl (rL (pv 5)) (aD (i:=7) cv.nd rfl (Or.inl rfl))
   (@ah _ _ _ _ _ (@aO _ _ _ _ _ _ _ _ (fO (bY (ao cIsShare hr (by decide) rfl (@aa _ _ _ _ _ (pv 0) (@aa _ _ _ _ _ (pv 1) (@aa _ _ _ _ _ (pv 3) (@aa _ _ _ _ _ (pv 4) (@aa _ _ _ _ _ (@au _ _ _ _ _ _ _ av (pv 7) ag (λ_ _=>rfl)) (@aa _ _ _ _ _ (@au _ _ _ _ _ _ _ av (pv 7) ag (λ_ _=>rfl)) af rfl) rfl) rfl) rfl) rfl) rfl)))) (@ai _ _ _ (@aq _ _ _ _ eN)) ax)
   (@ai _ _ _ (@cy _ _ _ _ _ _ _ _ yD rfl (@cW _ _ _ _ (@au _ _ _ _ _ _ _ av (pv 7) ag (λ_ _=>rfl))) (aD (i:=8) cv.nd rfl (Or.inl rfl))
    (@ai _ _ _ (sO (pv 6) (pv 8) qr (@au _ _ _ _ _ _ _ av (pv 7) ag (λ_ _=>rfl)) u9 set_list)) (λ_=>rfl)))) (λ_=>rfl))
  (@ah _ _ _ _ _ (@cy _ _ _ _ _ _ _ _ yD rfl (bA rfl B.b_range (@aa _ _ _ _ _ (@au _ _ _ _ _ _ _ av (pv 1) ag (λ_ _=>rfl)) af rfl)) (aD (i:=8) cv.nd rfl (Or.inl rfl))
   (@ai _ _ _ (@aO _ _ _ _ _ _ _ _ (PW.pt (cK (aj bV (pv 8) (pv 4) rfl) (cg (aj lM (@au _ _ _ _ _ _ _ bD (pv 6) (pv 8) (λ_ _=>rfl)) (@au _ _ _ _ _ _ _ (oR (K:=K)) (pv 2) (pv 8) (λ_ _=>rfl)) (ay _))))) (@ai _ _ _ (@aq _ _ _ _ eN)) ax)) (λ_=>rfl))
  (@ai _ _ _ (@aq _ _ _ _ (@aN _ _ _ _ _ (@aa _ _ _ _ _ aU (@aa _ _ _ _ _ (@aE _ _ _ _ _ _ _ _ bh (aA (gv hr.hd) rfl B.b_sum jl (@aa _ _ _ _ _ (bj ["place", "weights"] [none,some 2] rfl (@cW _ _ _ _ (pv 3)) rfl (λ_ _ _ _ _=>(aD (i:=0) df rfl (Or.inl rfl))) (λ_ _ _ _ _=>bF) (λ_ _ _ _ _=>(@au _ _ _ _ _ _ _ (oR (K:=K)) (pv 1) (pv 0) (λ_ _=>rfl)))) af rfl)) (aA (gv hr.hd) rfl B.b_sum jl (@aa _ _ _ _ _ (bj ["row"] [none] rfl (rL (pv 5)) rfl (λ_ _ _ _ _=>(aD (i:=0) hV rfl (Or.inl rfl))) (λ_ _ _ _ _=>bF) (λ_ _ _ _ _=>(@au _ _ _ _ _ _ _ (fv (K:=K)) (pv 0) ag (λ_ _=>rfl)))) af rfl))) af rfl) rfl))))))),?_⟩
 obtain ⟨tt,e1,e2⟩:=W.at'
 obtain ⟨us,hp,hu,eus,lus⟩:=R
 have hp':H p=some (.lst (us.map λu =>.ref u.1))\/H p=some (.tup (us.map λu =>.ref u.1)):=by
  cases c with
  | true=>exact .inl hp
  | false=>exact .inr hp
 have lum:(us.map λu=>V.ref u.1).length=us.length:=wW _
 refine ⟨(by show 1<=xf;decide),λo ho =>?_⟩
 have go:=ab ho (.lst [.int 0])
 refine ⟨_,rfl,r,_,0,_,rfl,rfl,SqT.of (go _ _ e1),rfl,o,_,_,rfl,rfl,ae,by lia,by lia,?_,λU hU =>?_⟩
 ·exact aR (by show 1*(m:Int).toNat<=5000;lia)
 have hU0:=go.free hU
 have gU:=go.trans (ab hU (.lst (yg (m:Int).toNat [V.int 0]).flatten))
 have LU:Lay m (upd (upd H o (.lst [.int 0])) U (.lst (yg (m:Int).toNat [V.int 0]).flatten)) U λv=>laid (rs.take 0) v:=by
  refine ⟨yg m 0,?_,Bc,λj hj =>?_⟩
  ·rw[ae]
   congr 2
   rw[show (m:Int).toNat=m by lia]
   exact rep0 m
  ·rw[xu,List.getElem?_replicate_of_lt hj]
   rfl
 generalize upd (upd H o (.lst [.int 0])) U (.lst (yg (m:Int).toNat [V.int 0]).flatten)=H1 at gU LU
 have cut:∀{i:Nat} {u:Addr×Addr×List Int×Int},us[i]? = some u->rs.take (i+1)=rs.take i++[(u.2.2.1,u.2.2.2)]:=λ{i u} e=>by
  rw[<- eus, <- Av, <- Av,take_snoc e]
 refine ⟨_,rfl,p,rfl,ui (xs:=us.map λu =>.ref u.1) (λi σ H'=>(∃c7 c8,σ=[some (.ref f'),some (.ref r),some (.ref wa),some (.ref t),some (.ref k),some (.ref p),some (.ref U),c7,c8])/\aK H H'/\Lay m H' U (laid (rs.take i))/\∀r∈rs.take i,mE (ts.map (·.2)) T Kp r) (hp'.imp (gU _ _) (gU _ _)) ⟨⟨_,_,rfl⟩,gU,LU,λr h=>(by cases h)⟩ (λi σ H' h=>by rcases hp' with z | z <;> rw[h.2.1 _ _ z,gU _ _ z]) ?_ ?_⟩
 ·rintro i x σ H2 hx ⟨⟨c7,c8,rfl⟩,s2,L2,al⟩
  obtain ⟨u,eu,rfl⟩:=kq hx
  have um:=xE eu
  obtain ⟨h1,h2,h3⟩:=hu u um
  have ea:=s2 _ _ h1
  have rm:(u.2.2.1,u.2.2.2)∈rs:=by rw[<- eus];exact zr (f:=(·.2.2)) um
  refine ⟨_,rfl,_,rfl,_,rfl,_,rfl,_,rfl,u.1,_,0,_,rfl,rfl,SqT.of ea,rfl,_,rfl,u.1,_,1,_,rfl,rfl,SqT.of ea,rfl,ff.mpr ⟨f',r,t,k,u.2.1,m,ts,T,Kp,u.2.2.1,u.2.2.2,rfl,CF,W.same s2,s2 _ _ et,s2 _ _ ek,s2 _ _ h2,h3,λb1 H3 s3 hb=>⟨_,rfl,?_⟩⟩⟩
  cases b1 with
  | false =>
   refine aS (q _ _ none (s2.trans s3) rfl (λz =>?_) λ_=>rfl)
   exact absurd (hb.mpr (z.1 _ rm)) xw
  | true =>
   have ro:=hb.mp rfl
   have rng:=IsR.inr W.ok ro.2.1
   have nd:u.2.2.1.Nodup:=ro.2.1.2.1
   have s23:=s2.trans s3
   have L3:Lay m H3 U λv=>laid (rs.take i) v+if v∈u.2.2.1.take 0 then u.2.2.2 else 0:=by
    obtain ⟨L,a,b,c⟩:=L2
    exact ⟨L,s3 _ _ a,b,λj hj=>by rw[c j hj];simp⟩
   have lzm:(u.2.2.1.map V.int).length=u.2.2.1.length:=wW _
   let W0:Nat->St->Hp->Prop:=λj σ H'=>(∃c8,σ=[some (.ref f'),some (.ref r),some (.ref wa),some (.ref t),some (.ref k),some (.ref p),some (.ref U),some (.ref u.1),c8])/\aK H H'/\Lay m H' U λv=>laid (rs.take i) v+if v∈u.2.2.1.take j then u.2.2.2 else 0
   refine aT ⟨_,rfl,u.1,_,0,_,rfl,rfl,SqT.of (s23 _ _ h1),rfl,u.2.1,rfl,⟨_,SqT.of (s23 _ _ h2)⟩,oo (xs:=u.2.2.1.map V.int) W0 ⟨⟨_,rfl⟩,s23,L3⟩ (λj σ H' _ h=>SqT.of (h.2.1 _ _ h2)) ?_ ?_⟩
   ·rintro j x σ H4 hx ⟨⟨c8,rfl⟩,s4,L,eL,lL,aL⟩
    obtain ⟨v,ev,rfl⟩:=iw hx
    obtain ⟨v0,v1⟩:=rng v (xE ev)
    obtain ⟨n,rfl⟩:∃n:Nat,v=n:=⟨v.toNat,by lia⟩
    have hn:n<L.length:=by lia
    have nj:(n:Int)∉u.2.2.1.take j:=nY nd ev
    refine ⟨_,rfl,_,rfl,U,_,n,.int (L.getD n 0),rfl,rfl,SqL.of eL,by rw[xW,xp hn,xu,xp hn];rfl,_,rfl,u.1,_,1,_,rfl,rfl,SqT.of (s4 _ _ h1),rfl,_,_,rfl,rfl,U,_,n,n,rfl,rfl,eL,by unfold ixN;rw[if_pos (by lia),if_pos (by rw[wW];lia)];rfl,⟨_,rfl⟩,aK.fc s4 hU0 _,L.set n (L.getD n 0+u.2.2.2),by rw[ae,DM],by rw[Bq];exact lL,λj' hj' =>?_⟩
    rw[xu,List.getElem?_set]
    by_cases c:n=j'
    ·subst c
     rw[if_pos rfl,if_pos hn,aL n hj']
     show (laid (rs.take i) n+if (n:Int)∈u.2.2.1.take j then u.2.2.2 else 0)+u.2.2.2=laid (rs.take i) n+if (n:Int)∈u.2.2.1.take (j+1) then u.2.2.2 else 0
     rw[if_neg nj,if_pos (by rw[y8,ev];simp),DN]
    ·rw[if_neg c, <- xu,aL j' hj']
     have:((j':Int)∈u.2.2.1.take (j+1))↔(j':Int)∈u.2.2.1.take j:=by
      rw[y8,ev,xx]
      constructor
      ·rintro (z | z)
       ·exact z
       ·have:(j':Int)=n:=by simpa using z
        lia
      ·exact .inl
     simp only[this]
   ·rintro σ H4 ⟨⟨c8,rfl⟩,s4,L4⟩
    rw[lzm,zo] at L4
    refine ⟨⟨_,_,rfl⟩,s4,?_,λr' h =>?_⟩
    ·obtain ⟨L,a,b,c⟩:=L4
     exact ⟨L,a,b,λj hj=>by rw[c j hj,cut eu,qC]⟩
    ·rw[cut eu] at h
     rcases xx.mp h with z | z
     ·exact al r' z
     ·rw[xo.mp z];exact ro
 rintro σ H2 ⟨⟨c7,c8,rfl⟩,s2,L2,al⟩
 have lr:rs.length=us.length:=by rw[<- eus,wW]
 rw[lum, <- lr,zo] at L2 al
 obtain ⟨L,eL,lL,aL⟩:=L2
 have hw2:∀{H':Hp},aK H H'->∀{i:Nat},i<m->(∃v,(SqL K H' wa (ws.map V.int)\/SqT K H' wa (ws.map V.int))/\atI (ws.map V.int) (i:Int)=some (.int v)/\v=ws.getD i 0):=λ{H'} s' {i} hi=>⟨_,hw.imp (λz=>SqL.of (s' _ _ z)) (λz=>SqT.of (s' _ _ z)),jL (by lia),rfl⟩
 let W1:Nat->St->Hp->Prop:=λi σ H'=>(∃c8,σ=[some (.ref f'),some (.ref r),some (.ref wa),some (.ref t),some (.ref k),some (.ref p),some (.ref U),c7,c8])/\H'=H2/\∀j:Nat,j<i->(j:Int)∉Kp->laid rs j<=ws.getD j 0
 refine ⟨_,rfl,r,_,0,_,rfl,rfl,SqT.of (s2 _ _ e1),rfl,(m:Int),rfl,by lia,by lia,dG W1 ⟨⟨_,rfl⟩,rfl,λj h=>absurd h (D5 j)⟩ ?_ ?_⟩
 ·rintro i σ H3 hi ⟨⟨c8,rfl⟩,rfl,hj⟩
  have him:i<m:=by lia
  rw[CO]
  refine ⟨_,rfl,_,rfl,k,_,rfl,.inr (SqT.of (s2 _ _ ek)),rfl,aV Kp,_,rfl,?_⟩
  show if (if true=true then !inV (.int i) (Kp.map V.int) else _)=true then _ else _
  rw[if_pos rfl,eG]
  by_cases h2:(i:Int)∈Kp
  ·rw[decide_eq_true h2]
   refine aT (aT ⟨⟨_,rfl⟩,rfl,λj hj' hk =>?_⟩)
   by_cases c:j=i
   ·subst c;exact absurd h2 hk
   ·exact hj j (by lia) hk
  rw[decide_eq_false h2]
  obtain ⟨wv,hq,ha,hv⟩:=hw2 s2 him
  refine aS ⟨_,rfl,_,rfl,U,_,i,_,rfl,rfl,SqL.of eL,jL (by lia),_,rfl,_,rfl,wa,_,i,_,rfl,rfl,hq,ha,_,_,rfl,rfl,_,rfl,bR (λz =>?_) λz =>?_⟩
  ·refine q _ _ none s2 rfl (λh =>?_) λ_=>rfl
   have h1:=h.2 i him h2
   have h3:=of_decide_eq_true z
   rw[aL i him,hv] at h3
   lia
  ·refine ⟨⟨_,rfl⟩,rfl,λj hj' hk =>?_⟩
   by_cases c:j=i
   ·subst c
    have h3:=mt decide_eq_true z
    rw[aL j him,hv] at h3
    lia
   ·exact hj j (by lia) hk
 rintro σ H3 ⟨⟨c8,rfl⟩,rfl,hj⟩
 have RO:cA m (ts.map (·.2)) ws T Kp rs:=⟨al,λi hi=>hj i (by lia)⟩
 refine ⟨_,rfl,t,rfl,⟨_,SqT.of (s2 _ _ et)⟩,gC (λv=>ws.getD v.toNat 0) V.int (s2 _ _ et) (by lia) (λv hv R hR =>?_) λl hl =>?_⟩
 ·obtain ⟨v0,v1⟩:=tm v hv
  obtain ⟨wv,hq,ha,hv'⟩:=hw2 s2 (i:=v.toNat) (by lia)
  rw[show ((v.toNat:Nat):Int)=v by lia] at ha
  refine ⟨_,rfl,_,rfl,wa,_,v,_,rfl,rfl,hq,ha,?_⟩
  rw[hv']
  exact hR
 have s4:=s2.trans (ab hl (.lst ((T.map λv=>ws.getD v.toNat 0).map V.int)))
 refine ⟨l,_,rfl,ae,?_⟩
 generalize upd H3 l (.lst ((T.map λv=>ws.getD v.toNat 0).map V.int))=H4 at s4
 refine ⟨_,rfl,p,rfl,qa (xs:=us.map λu =>.ref u.1) (λi ys H'=>H'=H4/\ys=((rs.take i).map (·.2)).map V.int) (hp'.imp (s4 _ _) (s4 _ _)) ⟨rfl,rfl⟩ (by rw[lum];exact aR (by lia)) (λi ys H' h=>by rw[h.1]) ?_ ?_⟩
 ·rintro i x ys H5 hx _ ⟨rfl,rfl⟩ R1 R0 r1 r0
  obtain ⟨u,eu,rfl⟩:=kq hx
  refine aS ⟨_,rfl,u.1,_,1,_,rfl,rfl,SqT.of (s4 _ _ (hu u (xE eu)).1),rfl,r1 _ _ ⟨rfl,?_⟩⟩
  rw[cut eu,xq,xq];rfl
 ·rintro ys H5 _ ⟨rfl,rfl⟩ l5 hl5
  rw[lum, <- lr,zo]
  refine ⟨l5,_,rfl,ae,_,_,rfl,rfl,(by show 2<=xf;decide),λa ha =>?_⟩
  exact q _ _ (some (some (wsum ws T+(rs.map (·.2)).sum))) (s4.trans ((ab hl5 _).trans (ab ha _))) ⟨a,rfl,ae⟩ (λ_=>rfl) λz=>absurd RO z
end
abbrev oW:Sp:=λvs H Q _=>∃(a b:V) (x y:Option MnR.Rs),vs=[a,b]/\Shn H a x/\Shn H b y/\∀v:V,Shn H v (both x y)->Q v H
@[irreducible] def lj:Sp:=oW
theorem fW {vs:List V}{H:Hp}{Q:VK}{E:XK}:lj vs H Q E↔oW vs H Q E:=by
 delta lj
 exact zt
section
variable  {P:xA}{w:xQ}{K:wY}{mg:Str->Option xb}{base:Heap}{f T:Addr}{fd:yd}
theorem jM:aQ ["first", "second"] ["first", "second"] (aB dX):=⟨rfl,rfl,rfl,by decide +kernel,rfl,by decide +kernel,by decide +kernel⟩
theorem jN (F:Fun K "lesser_shown" "lesser_shown" dX f fd)(B:Blt mg):bG P w K mg base CX0 1 f fd ["first", "second"] lj:=by
 refine F.ok jM (λvs H Q E h =>?_) (λcdv A outer s H vs Q E hr h =>?_)
 ·obtain ⟨_,_,_,_,rfl,_⟩:=fW.mp h
  rfl
 obtain ⟨a,b,x,y,rfl,hx,hy,q⟩:=fW.mp h
 refine ⟨_,(@ah _ _ _ _ _ (@aO _ _ _ _ _ _ _ _ (PW.pt (ck (aj mW (pv 0) eN (ay _)) (cx (aj mW (pv 1) eN (ay _))))) (@ai _ _ _ (@aq _ _ _ _ eN)) ax)
  (@ai _ _ _ (@aq _ _ _ _ (aA (nM rfl (hu8 hr)) rfl B.b_min jk (@aa _ _ _ _ _ (pv 0) (@aa _ _ _ _ _ (pv 1) af rfl) rfl))))),?_⟩
 cases x with
 | none =>
  cases (show a = .non from hx)
  exact ⟨_,rfl,rfl,_,rfl,aS (aS (q .non rfl))⟩
 | some x =>
  obtain ⟨a',rfl,ea⟩:=hx
  cases y with
  | none =>
   cases (show b = .non from hy)
   exact ⟨_,rfl,rfl,_,rfl,aT ⟨_,rfl,rfl,_,rfl,aS (q .non rfl)⟩⟩
  | some y =>
   obtain ⟨b',rfl,eb⟩:=hy
   refine ⟨_,rfl,rfl,_,rfl,aT ⟨_,rfl,rfl,_,rfl,aT ⟨_,rfl,_,rfl,a',b',x,y,rfl,SqT.of ea,SqT.of eb,λz=>q _ ?_,λz=>q _ ?_⟩⟩⟩
   ·refine ⟨b',rfl,?_⟩
    unfold mF
    rw[if_pos z];exact eb
   ·refine ⟨a',rfl,?_⟩
    unfold mF
    rw[if_neg (by rw[z];exact xw)];exact ea
end
open PySem L2
@[irreducible] def fX (P:xA)(w:xQ)(K:wY)(mg:Str->Option xb)(base:Heap):Nat->Sp
 | 0=>λ_ _ _ _=>False
 | n+1=>λvs H Q _=>∃(f r wa t k a:Addr) (m:Nat) (ts:List (Addr×List Int)) (ws T Kp:List Int) (c:Bool) (tr:Tr),vs=[.str "round",.ref f,.ref r,.ref wa,.ref t,.ref k,.ref a]/\jG P w K mg base 2 f ["web", "places"] bN/\Wb H r m ts/\m<=200/\(H wa=some (.lst (ws.map V.int))\/H wa=some (.tup (ws.map V.int)))/\ws.length=m/\H t=some (.tup (T.map V.int))/\(∀v∈T,0<=v/\v<m)/\T.length+n<=1000/\H k=some (.tup (Kp.map V.int))/\Kp.length+n<=1000/\bJ c H n a tr/\∀(v:V) (H':Hp),aK H H'->Shn H' v (shw m (ts.map (·.2)) ws T Kp tr)->Q v H'
theorem dg {P:xA}{w:xQ}{K:wY}{mg:Str->Option xb}{base:Heap}{n:Nat}{vs:List V}{H:Hp}{Q:VK}{E:XK}:fX P w K mg base (n+1) vs H Q E↔∃(f r wa t k a:Addr) (m:Nat) (ts:List (Addr×List Int)) (ws T Kp:List Int) (c:Bool) (tr:Tr),vs=[.str "round",.ref f,.ref r,.ref wa,.ref t,.ref k,.ref a]/\jG P w K mg base 2 f ["web", "places"] bN/\Wb H r m ts/\m<=200/\(H wa=some (.lst (ws.map V.int))\/H wa=some (.tup (ws.map V.int)))/\ws.length=m/\H t=some (.tup (T.map V.int))/\(∀v∈T,0<=v/\v<m)/\T.length+n<=1000/\H k=some (.tup (Kp.map V.int))/\Kp.length+n<=1000/\bJ c H n a tr/\∀(v:V) (H':Hp),aK H H'->Shn H' v (shw m (ts.map (·.2)) ws T Kp tr)->Q v H':=by
 unfold fX
 exact zt
theorem qF {P:xA}{w:xQ}{K:wY}{mg:Str->Option xb}{base:Heap}{vs:List V}{H:Hp}{Q:VK}{E:XK}:¬ fX P w K mg base 0 vs H Q E:=by
 unfold fX
 exact id
theorem sj {m:Nat}{ns:List (List Int)}{ws T Kp:List Int}{v:Int}{x y:Tr}(h:Opn m T Kp v):shw m ns ws T Kp (.part v x y)=both (shw m ns ws (T++[v]) Kp x) (shw m ns ws T (Kp++[v]) y):=by rw[shw,if_pos h]
theorem iG {m:Nat}{ns:List (List Int)}{ws T Kp:List Int}{v:Int}{x y:Tr}(h:¬ Opn m T Kp v):shw m ns ws T Kp (.part v x y)=none:=by rw[shw,if_neg h]
theorem oX:("shares" : Str) ≠ "round" := by decide +kernel
theorem oY:("part" : Str) ≠ "round" := by decide +kernel
theorem oZ:("part" : Str) ≠ "shares" := by decide +kernel
section
variable  {P:xA}{w:xQ}{K:wY}{mg:Str->Option xb}{base:Heap}{f T:Addr}{fd:yd}
theorem dq:aQ ["word", "closes", "web", "weights", "taken", "kept", "tree", "place", "first", "second"] ["word", "closes", "web", "weights", "taken", "kept", "tree"] (aB fT):=⟨rfl,rfl,rfl,by decide +kernel,rfl,by decide +kernel,by decide +kernel⟩
theorem mI (F:Fun K "case_shows" "case_shows" fT f fd)(B:Blt mg)(n:Nat)(cCaseShows:Cal P w K mg base (5+n) "case_shows" ["word", "closes", "web", "weights", "taken", "kept", "tree"] (fX P w K mg base n))(cLesserShown:Cal P w K mg base 1 "lesser_shown" ["first", "second"] lj)(cKeptShows:Cal P w K mg base 4 "kept_shows" ["closes", "web", "kept", "ring"] (lb P w K mg base))(cSharesShow:Cal P w K mg base 5 "shares_show" ["closes", "web", "weights", "taken", "kept", "rows"] (gD P w K mg base))(cIsOpen:Cal P w K mg base 1 "is_open" ["web", "taken", "kept", "place"] k9):bG P w K mg base CX0 (5+n+1) f fd ["word", "closes", "web", "weights", "taken", "kept", "tree"] (fX P w K mg base (n+1)):=by
 refine F.ok dq (λvs H Q E h =>?_) (λcdv A outer s H vs Q E hr h =>?_)
 ·obtain ⟨_,_,_,_,_,_,_,_,_,_,_,_,_,rfl,_⟩:=dg.mp h
  rfl
 obtain ⟨f',r,wa,t,k,a,m,ts,ws,T,Kp,c,tr,rfl,CF,W,m2,hw,lw,et,tm,lt,ek,lk,tr0,q⟩:=dg.mp h
 refine ⟨_,(@ah _ _ _ _ _ (@aO _ _ _ _ _ _ _ _ (aj bE (@au _ _ _ _ _ _ _ av (pv 6) ag (λ_ _=>rfl)) (pv 0) (ay _)) (@ai _ _ _ (@aq _ _ _ _ (ao cKeptShows hr (by lia) rfl (@aa _ _ _ _ _ (pv 1) (@aa _ _ _ _ _ (pv 2) (@aa _ _ _ _ _ (pv 5) (@aa _ _ _ _ _ (@au _ _ _ _ _ _ _ av (pv 6) ag (λ_ _=>rfl)) af rfl) rfl) rfl) rfl)))) ax)
  (@ah _ _ _ _ _ (@aO _ _ _ _ _ _ _ _ (aj bE (@au _ _ _ _ _ _ _ av (pv 6) ag (λ_ _=>rfl)) aU (ay _)) (@ai _ _ _ (@aq _ _ _ _ (ao cSharesShow hr (by lia) rfl (@aa _ _ _ _ _ (pv 1) (@aa _ _ _ _ _ (pv 2) (@aa _ _ _ _ _ (pv 3) (@aa _ _ _ _ _ (pv 4) (@aa _ _ _ _ _ (pv 5) (@aa _ _ _ _ _ (@au _ _ _ _ _ _ _ av (pv 6) ag (λ_ _=>rfl)) af rfl) rfl) rfl) rfl) rfl) rfl)))) ax)
  (@ah _ _ _ _ _ (@aO _ _ _ _ _ _ _ _ (PW.pt (ck (aj qY (@au _ _ _ _ _ _ _ av (pv 6) ag (λ_ _=>rfl)) aU (ay _)) (cx (fO (bY (ao cIsOpen hr (by lia) rfl (@aa _ _ _ _ _ (pv 2) (@aa _ _ _ _ _ (pv 4) (@aa _ _ _ _ _ (pv 5) (@aa _ _ _ _ _ (@au _ _ _ _ _ _ _ av (pv 6) ag (λ_ _=>rfl)) af rfl) rfl) rfl) rfl))))))) (@ai _ _ _ (@aq _ _ _ _ eN)) ax)
  (@ah _ _ _ _ _ (@aH _ _ 7 _ _ _ _ dq.nd rfl (Or.inl rfl) (@aN _ _ _ _ _ (@aa _ _ _ _ _ (@au _ _ _ _ _ _ _ av (pv 6) ag (λ_ _=>rfl)) af rfl)) rfl (by first | exact .inl rfl | exact .inr rfl | assumption))
  (@ah _ _ _ _ _ (@aH _ _ 8 _ _ _ _ dq.nd rfl (Or.inl rfl) (ao cCaseShows hr (xg _) rfl (@aa _ _ _ _ _ (pv 0) (@aa _ _ _ _ _ (pv 1) (@aa _ _ _ _ _ (pv 2) (@aa _ _ _ _ _ (pv 3) (@aa _ _ _ _ _ (@aE _ _ _ _ _ _ _ _ da (pv 4) (pv 7)) (@aa _ _ _ _ _ (pv 5) (@aa _ _ _ _ _ (@au _ _ _ _ _ _ _ av (pv 6) ag (λ_ _=>rfl)) af rfl) rfl) rfl) rfl) rfl) rfl) rfl)) rfl (by first | exact .inl rfl | exact .inr rfl | assumption))
  (@ah _ _ _ _ _ (@aH _ _ 9 _ _ _ _ dq.nd rfl (Or.inl rfl) (ao cCaseShows hr (xg _) rfl (@aa _ _ _ _ _ (pv 0) (@aa _ _ _ _ _ (pv 1) (@aa _ _ _ _ _ (pv 2) (@aa _ _ _ _ _ (pv 3) (@aa _ _ _ _ _ (pv 4) (@aa _ _ _ _ _ (@aE _ _ _ _ _ _ _ _ da (pv 5) (pv 7)) (@aa _ _ _ _ _ (@au _ _ _ _ _ _ _ av (pv 6) ag (λ_ _=>rfl)) af rfl) rfl) rfl) rfl) rfl) rfl) rfl)) rfl (by first | exact .inl rfl | exact .inr rfl | assumption))
  (@ai _ _ _ (@aq _ _ _ _ (ao cLesserShown hr (by lia) rfl (@aa _ _ _ _ _ (pv 8) (@aa _ _ _ _ _ (pv 9) af rfl) rfl)))))))))),?_⟩
 cases tr with
 | ring Z =>
  obtain ⟨p,ea,ep,lz⟩:=tr0
  refine ⟨_,rfl,a,_,0,_,rfl,rfl,SqT.of ea,rfl,_,rfl,rfl,_,rfl,?_⟩
  rw[decide_eq_true (rfl:V.str "round" = V.str "round")]
  refine aS ⟨_,rfl,_,rfl,_,rfl,_,rfl,a,_,1,_,rfl,rfl,SqT.of ea,rfl,fV.mpr ⟨f',r,k,p,m,ts,Kp,Z,rfl,CF,W,ek,ep,lz,λb v H' s' hs h1 h2=>q v H' s' ?_⟩⟩
  unfold shw
  by_cases cc:IsR (ts.map (·.2)) Z/\∀v∈Z,v∈Kp
  ·rw[if_pos cc, <- h1 cc];exact hs
  ·rw[if_neg cc, <- h2 cc];exact hs
 | rows rs =>
  obtain ⟨p,ea,R⟩:=tr0
  refine ⟨_,rfl,a,_,0,_,rfl,rfl,SqT.of ea,rfl,_,rfl,rfl,_,rfl,?_⟩
  rw[decide_eq_false (λz=>oX (V.str.inj z))]
  refine aT ⟨_,rfl,a,_,0,_,rfl,rfl,SqT.of ea,rfl,rfl,_,rfl,?_⟩
  rw[decide_eq_true (rfl:V.str "shares" = V.str "shares")]
  refine aS ⟨_,rfl,_,rfl,_,rfl,_,rfl,_,rfl,_,rfl,a,_,1,_,rfl,rfl,SqT.of ea,rfl,d8.mpr ⟨f',r,wa,t,k,p,m,ts,ws,T,Kp,c,rs,rfl,CF,W,m2,hw,lw,et,tm,by lia,ek,R,λv H' b s' hs h1 h2=>q v H' s' ?_⟩⟩
  unfold shw
  by_cases cc:cA m (ts.map (·.2)) ws T Kp rs
  ·rw[if_pos cc, <- h1 cc];exact hs
  ·rw[if_neg cc, <- h2 cc];exact hs
 | part v x y =>
  obtain ⟨n',p,p',rfl,ea,hx,hy⟩:=tr0
  refine ⟨_,rfl,a,_,0,_,rfl,rfl,SqT.of ea,rfl,_,rfl,rfl,_,rfl,?_⟩
  rw[decide_eq_false (λz=>oY (V.str.inj z))]
  refine aT ⟨_,rfl,a,_,0,_,rfl,rfl,SqT.of ea,rfl,rfl,_,rfl,?_⟩
  rw[decide_eq_false (λz=>oZ (V.str.inj z))]
  refine aT ⟨_,rfl,a,_,0,_,rfl,rfl,SqT.of ea,rfl,rfl,_,rfl,?_⟩
  rw[decide_eq_true (rfl:V.str "part" = V.str "part")]
  refine aT ⟨_,rfl,_,rfl,_,rfl,_,rfl,a,_,1,_,rfl,rfl,SqT.of ea,rfl,fU.mpr ⟨r,t,k,m,ts,T,Kp,v,rfl,W,et,ek,λb hb=>⟨_,rfl,?_⟩⟩⟩
  cases b with
  | false =>
   refine aS (q _ _ (aK.refl _) ?_)
   rw[iG λz=>xw (hb.mpr z)]
   rfl
  | true =>
   have op:=hb.mp rfl
   rw[sj op] at q
   refine aT ⟨_,rfl,a,_,1,_,rfl,rfl,SqT.of ea,rfl,(by show 1<=xf;decide),λo ho =>?_⟩
   have s1:=ab ho (.tup [.int v])
   have eo:upd H o (.tup [.int v]) o=some (.tup [.int v]):=ae
   generalize upd H o (.tup [.int v])=H1 at s1 eo
   refine ⟨_,rfl,_,rfl,_,rfl,_,rfl,_,rfl,_,rfl,t,o,_,_,rfl,rfl,s1 _ _ et,eo,?_,λt2 H2 s2 e2 =>?_⟩
   ·exact aR (by rw[wW];show _+1<=_;lia)
   have s12:=s1.trans s2
   have e2':H2 t2=some (.tup ((T++[v]).map V.int)):=by rw[e2,xq];rfl
   refine ⟨_,rfl,_,rfl,a,_,2,_,rfl,rfl,SqT.of (s12 _ _ ea),rfl,dg.mpr ⟨f',r,wa,t2,k,p,m,ts,ws,T++[v],Kp,c,x,rfl,CF,W.same s12,m2,hw.imp (s12 _ _) (s12 _ _),lw,e2',λu hu =>?_,by rw[w9];show _+1+_<=_;lia,s12 _ _ ek,by lia,hx.same s12,λv1 H3 s3 h1 =>?_⟩⟩
   ·rcases xx.mp hu with z | z
    ·exact tm u z
    ·rw[xo.mp z];exact ⟨op.1,op.2.1⟩
   have s13:=s12.trans s3
   refine ⟨_,rfl,_,rfl,_,rfl,_,rfl,_,rfl,_,rfl,_,rfl,k,o,_,_,rfl,rfl,s13 _ _ ek,s3 _ _ (s2 _ _ eo),?_,λk2 H4 s4 e4 =>?_⟩
   ·exact aR (by rw[wW];show _+1<=_;lia)
   have s14:=s13.trans s4
   have e4':H4 k2=some (.tup ((Kp++[v]).map V.int)):=by rw[e4,xq];rfl
   refine ⟨_,rfl,a,_,3,_,rfl,rfl,SqT.of (s14 _ _ ea),rfl,dg.mpr ⟨f',r,wa,t,k2,p',m,ts,ws,T,Kp++[v],c,y,rfl,CF,W.same s14,m2,hw.imp (s14 _ _) (s14 _ _),lw,s14 _ _ et,tm,by lia,e4',by rw[w9];show _+1+_<=_;lia,hy.same s14,λv2 H5 s5 h2 =>?_⟩⟩
   refine ⟨_,rfl,_,rfl,fW.mpr ⟨v1,v2,_,_,rfl,h1.same (s4.trans s5),h2,λu hu=>q u H5 (s14.trans s5) hu⟩⟩
end
open PySem L2
abbrev pf:Sp:=λvs H Q _=>∃(r wa k a:Addr) (m:Nat) (ts:List (Addr×List Int)) (ws Kp:List Int) (c:Bool) (tr:Tr),vs=[.ref r,.ref wa,.ref k,.ref a]/\Wb H r m ts/\m<=200/\(H wa=some (.lst (ws.map V.int))\/H wa=some (.tup (ws.map V.int)))/\ws.length=m/\H k=some (.tup (Kp.map V.int))/\Kp.length<=200/\bJ c H 45 a tr/\∀(v:V) (H':Hp),aK H H'->Shn H' v (shw m (ts.map (·.2)) ws [] Kp tr)->Q v H'
@[irreducible] def lp:Sp:=pf
theorem dh {vs:List V}{H:Hp}{Q:VK}{E:XK}:lp vs H Q E↔pf vs H Q E:=by
 delta lp
 exact zt
section
variable  {P:xA}{w:xQ}{K:wY}{mg:Str->Option xb}{base:Heap}{f T:Addr}{fd:yd}
theorem nZ:aQ ["web", "weights", "kept", "tree"] ["web", "weights", "kept", "tree"] (aB gZ):=⟨rfl,rfl,rfl,by decide +kernel,rfl,by decide +kernel,by decide +kernel⟩
theorem n5 (F:Fun K "one_shows" "one_shows" gZ f fd)(B:Blt mg)(cCaseShows:Cal P w K mg base 51 "case_shows" ["word", "closes", "web", "weights", "taken", "kept", "tree"] (fX P w K mg base 46))(cIsRound:Cal P w K mg base 2 "is_round" ["web", "places"] bN):bG P w K mg base CX0 52 f fd ["web", "weights", "kept", "tree"] lp:=by
 refine F.ok nZ (λvs H Q E h =>?_) (λcdv A outer s H vs Q E hr h =>?_)
 ·obtain ⟨_,_,_,_,_,_,_,_,_,_,rfl,_⟩:=dh.mp h
  rfl
 obtain ⟨r,wa,k,a,m,ts,ws,Kp,c,tr,rfl,W,m2,hw,lw,ek,lk,ht,q⟩:=dh.mp h
 obtain ⟨f',hm,CF⟩:=cIsRound.val
 refine ⟨_,(@ai _ _ _ (@aq _ _ _ _ (ao cCaseShows hr (by decide) rfl (@aa _ _ _ _ _ aU (@aa _ _ _ _ _ (sN (v :=.ref f') rfl hm rfl) (@aa _ _ _ _ _ (pv 0) (@aa _ _ _ _ _ (pv 1) (@aa _ _ _ _ _ (@aN _ _ _ _ _ af) (@aa _ _ _ _ _ (pv 2) (@aa _ _ _ _ _ (pv 3) af rfl) rfl) rfl) rfl) rfl) rfl) rfl)))),?_⟩
 refine ⟨_,rfl,_,rfl,(by show 0<=xf;decide),λt ht' =>?_⟩
 have s1:=ab ht' (.tup [])
 refine ⟨_,rfl,_,rfl,dg.mpr ⟨f',r,wa,t,k,a,m,ts,ws,[],Kp,c,tr,rfl,CF,W.same s1,m2,hw.imp (s1 _ _) (s1 _ _),lw,ae,(λv h=>nomatch h),by decide,s1 _ _ ek,by lia,ht.same s1,λv H' s' h=>q v H' (s1.trans s') h⟩⟩
end
theorem hW {c A:Prop}[Decidable c]{P:St->Hp->Prop}{σ:St}{H:Hp}(G:St->Hp->Prop)(hP:∀σ' H',G σ' H'->P σ' H')(h1:(∀σ' H',G σ' H'->P σ' H')->c->A)(h2:¬ c->G σ H):if c then A else P σ H:=by
 by_cases h:c
 ·rw[if_pos h];exact h1 hP h
 ·rw[if_neg h];exact hP σ H (h2 h)
abbrev Big (m:Int):Prop:=0<m/\m<2 ^ 200
theorem aF {m:Int}(h0:0<m)(h1:m<1000000):Big m:=⟨h0,Int.lt_trans h1 (by decide)⟩
abbrev ph:Sp:=λvs H Q _=>∃c m:Int,vs=[.int c,.int m]/\0<=m/\m<=1000/\∀n:Int,Q (.int n) H
@[irreducible] def lq:Sp:=ph
theorem d9 {vs:List V}{H:Hp}{Q:VK}{E:XK}:lq vs H Q E↔ph vs H Q E:=by
 delta lq
 exact zt
section
variable  {P:xA}{w:xQ}{K:wY}{mg:Str->Option xb}{base:Heap}{f T:Addr}{fd:yd}
theorem ef:aQ ["cell", "many", "number", "one", "k", "two"] ["cell", "many"] (aB nO):=⟨rfl,rfl,rfl,by decide +kernel,rfl,by decide +kernel,by decide +kernel⟩
theorem uj (F:Fun K "_law_deal" "_law_deal" nO f fd)(B:Blt mg):bG P w K mg base CX0 1 f fd ["cell", "many"] lq:=by
 refine F.ok ef (λvs H Q E h =>?_) (λcdv A outer s H vs Q E hr h =>?_)
 ·obtain ⟨_,_,rfl,_⟩:=d9.mp h
  rfl
 obtain ⟨c,m,rfl,m0,m1,q⟩:=d9.mp h
 refine ⟨_,(@ah _ _ _ _ _ (@aO _ _ _ _ _ _ _ _ (aj uD (pv 0) (@aE _ _ _ _ _ _ _ _ mV ag ag) (ay _)) (@ai _ _ _ (@aq _ _ _ _ (@aE _ _ _ _ _ _ _ _ cY (pv 0) (@aE _ _ _ _ _ _ _ _ mV ag ag)))) ax)
  (@ah _ _ _ _ _ (@aH _ _ 2 _ _ _ _ ef.nd rfl (Or.inl rfl) ag rfl (by first | exact .inl rfl | exact .inr rfl | assumption))
  (@ah _ _ _ _ _ (@aH _ _ 3 _ _ _ _ ef.nd rfl (Or.inl rfl) (@aE _ _ _ _ _ _ _ _ eQ (@aE _ _ _ _ _ _ _ _ gK (@aE _ _ _ _ _ _ _ _ bh (@aE _ _ _ _ _ _ _ _ eQ (pv 0) ag) ag) ag) ag) rfl (by first | exact .inl rfl | exact .inr rfl | assumption))
  (@ah _ _ _ _ _ (@cy _ _ _ _ _ _ _ _ yD rfl (bA rfl B.b_range (@aa _ _ _ _ _ (pv 1) af rfl)) (aD (i:=4) ef.nd rfl (Or.inl rfl))
   (@ah _ _ _ _ _ (@aH _ _ 3 _ _ _ _ ef.nd rfl (Or.inl rfl) (@aE _ _ _ _ _ _ _ _ eQ (@aE _ _ _ _ _ _ _ _ bh (@aE _ _ _ _ _ _ _ _ bh (@aE _ _ _ _ _ _ _ _ gK (pv 3) ag) (pv 4)) ag) ag) rfl (by first | exact .inl rfl | exact .inr rfl | assumption))
   (@ah _ _ _ _ _ (@aH _ _ 5 _ _ _ _ ef.nd rfl (Or.inl rfl) (@aE _ _ _ _ _ _ _ _ eQ (@aE _ _ _ _ _ _ _ _ gK (pv 3) (pv 3)) ag) rfl (by first | exact .inl rfl | exact .inr rfl | assumption))
   (@ai _ _ _ (@aH _ _ 2 _ _ _ _ ef.nd rfl (Or.inl rfl) (@aE _ _ _ _ _ _ _ _ bh (@aE _ _ _ _ _ _ _ _ gK (pv 2) ag) (@aE _ _ _ _ _ _ _ _ eQ (@aE _ _ _ _ _ _ _ _ bh (@aE _ _ _ _ _ _ _ _ sQ (pv 5) ag) (pv 5)) ag)) rfl (by first | exact .inl rfl | exact .inr rfl | assumption))))) (λ_=>rfl))
  (@ai _ _ _ (@aq _ _ _ _ (pv 2))))))),?_⟩
 refine ⟨_,rfl,_,_,rfl,rfl,⟨by decide,by decide,by decide⟩,_,_,rfl,rfl,_,rfl,bR (λz =>?_) (λz =>?_)⟩
 ·exact ⟨_,rfl,_,_,rfl,rfl,⟨by decide,by decide,by decide⟩,_,_,rfl,rfl,q _⟩
 refine ⟨_,rfl,_,_,rfl,rfl,(by show (0:Int)<_;decide),_,_,rfl,rfl,_,_,rfl,rfl,.inr ⟨by decide,by decide⟩,_,_,rfl,rfl,(by show (0:Int)<_;decide),?_⟩
 generalize (c%2147483647+977)*69621%2147483647=o
 let W0:Nat->St->Hp->Prop:=λk σ H'=>(∃(gr on:Int) (c4 c5:Option V),σ=[some (.int c),some (.int m),some (.int gr),some (.int on),c4,c5])/\H'=H
 refine ⟨_,rfl,m,rfl,by lia,by lia,dG W0 ⟨⟨_,_,_,_,rfl⟩,rfl⟩ ?_ ?_⟩
 ·rintro k σ H' hk ⟨⟨gr,on,c4,c5,rfl⟩,rfl⟩
  have hk':(k:Int)<m:=by lia
  refine ⟨_,rfl,_,_,rfl,rfl,.inr ⟨by decide,by decide⟩,_,rfl,_,_,rfl,rfl,_,_,rfl,rfl,_,_,rfl,rfl,(by show (0:Int)<_;decide),?_⟩
  have d1:=Bt (on*48271+(0+(k:Int))+1) (b:=2147483647) (by decide)
  have d2:=AX (on*48271+(0+(k:Int))+1) (b:=2147483647) (by decide)
  generalize (on*48271+(0+(k:Int))+1)%2147483647=o2 at d1 d2 ⊢
  refine ⟨_,rfl,_,rfl,_,_,rfl,rfl,.inl ⟨by lia,by lia⟩,_,_,rfl,rfl,(by show (0:Int)<_;decide),?_⟩
  exact ⟨_,rfl,_,_,rfl,rfl,.inr ⟨by decide,by decide⟩,_,rfl,_,_,rfl,rfl,⟨by decide,by decide⟩,_,rfl,_,_,rfl,rfl,_,_,rfl,rfl,(by show (0:Int)<_;decide),_,_,rfl,rfl,⟨_,_,_,_,rfl⟩,rfl⟩
 ·rintro σ H' ⟨⟨gr,on,c4,c5,rfl⟩,rfl⟩
  exact ⟨_,rfl,q _⟩
end
abbrev pq:Sp:=λvs H Q _=>∃(p:Addr) (m:Int),vs=[.ref p,.int m]/\Pt 1 H p/\Big m/\∀(d:Int) (H':Hp),0<=d->d<m->Bu 1 p H H'->Q (.int d) H'
@[irreducible] def cB:Sp:=pq
theorem az {vs:List V}{H:Hp}{Q:VK}{E:XK}:cB vs H Q E↔pq vs H Q E:=by
 delta cB
 exact zt
section
variable  {P:xA}{w:xQ}{K:wY}{mg:Str->Option xb}{base:Heap}{f T:Addr}{fd:yd}
theorem pz:aQ ["pot", "many", "digit"] ["pot", "many"] (aB nP):=⟨rfl,rfl,rfl,by decide +kernel,rfl,by decide +kernel,by decide +kernel⟩
theorem uo (F:Fun K "_law_take" "_law_take" nP f fd)(B:Blt mg):bG P w K mg base CX0 1 f fd ["pot", "many"] cB:=by
 refine F.ok pz (λvs H Q E h =>?_) (λcdv A outer s H vs Q E hr h =>?_)
 ·obtain ⟨_,_,rfl,_⟩:=az.mp h
  rfl
 obtain ⟨p,m,rfl,hp,hm,q⟩:=az.mp h
 refine ⟨_,(@ah _ _ _ _ _ (@iP _ _ _ _ _ _ (aA kJ rfl B.b_divmod qz (@aa _ _ _ _ _ (@au _ _ _ _ _ _ _ bD (pv 0) ag (λ_ _=>rfl)) (@aa _ _ _ _ _ (pv 1) af rfl) rfl)) (iO rfl (bQ (mT (pv 0) ag set_list) (bQ (aD (i:=2) pz.nd rfl (Or.inl rfl)) gi))) rfl rfl rfl)
  (@ai _ _ _ (@aq _ _ _ _ (pv 2)))),?_⟩
 have bt:=Bu.refl hp
 obtain ⟨xs,lx,ep⟩:=hp
 match xs,lx with
 | [x],_ =>
  refine ⟨_,rfl,p,_,0,_,rfl,rfl,SqL.of ep,rfl,_,rfl,_,_,rfl,hm,λo ho=>⟨o,_,rfl,SqT.of ae,rfl,_,_,rfl,_,rfl,p,_,0,0,rfl,rfl,(ab ho _) _ _ ep,rfl,_,_,rfl,rfl,?_⟩⟩
  exact ⟨_,rfl,q _ _ (Bt _ (by have:=hm.1;lia)) (AX _ hm.1) ((bt.same (ab ho _)).put (ys:=[x/m]) rfl)⟩
end
theorem bz {p l:Addr}{H:Hp}(hp:Pt 1 H p)(hl:H l=none):l≠p:=λz=>by
 obtain ⟨xs,_,e⟩:=hp
 rw[z,e] at hl;cases hl
theorem uq {kvs:List (List Key×V)}{ks:List (List Int)}(e:kvs.map (·.1)=ks.map (·.map Sum.inl))(k:List Int)(v:V):∃ks':List (List Int),(putK kvs (k.map Sum.inl) v).map (·.1)=ks'.map (·.map Sum.inl)/\(∀x∈ks',x∈ks\/x=k)/\ks'.length<=ks.length+1:=by
 unfold putK
 split
 ·refine ⟨ks,?_,λx hx =>.inl hx,Br _⟩
  rw[<- e,BK]
  refine List.map_congr_left λx _ =>?_
  show (if x.1=k.map Sum.inl then (x.1,v) else x).1=x.1
  split <;> rfl
 ·refine ⟨ks++[k],?_,λx hx =>?_,?_⟩
  ·rw[xq,xq,e];rfl
  ·rcases xx.mp hx with z | z
   ·exact .inl z
   ·exact .inr (xo.mp z)
  ·rw[w9];exact xg _
def Dk (m:Nat)(n:Nat)(H:Hp)(l:Addr):Prop:=∃(kvs:List (List Key×V)) (ks:List (List Int)),H l=some (.dT kvs)/\kvs.map (·.1)=ks.map (·.map Sum.inl)/\(∀k∈ks,∃a b:Int,k=[a,b]/\0<=a/\a<m/\0<=b/\b<m)/\ks.length<=n
abbrev sk:Sp:=λvs H Q _=>∃(p:Addr) (mo:Nat),vs=[.ref p,.int mo]/\Pt 1 H p/\mo<=40/\∀(r:Addr) (m:Nat) (ts:List (Addr×List Int)) (H':Hp),Bu 1 p H H'->Wb H' r m ts->m<=mo->Q (.ref r) H'
@[irreducible] def pA:Sp:=sk
theorem hX {vs:List V}{H:Hp}{Q:VK}{E:XK}:pA vs H Q E↔sk vs H Q E:=by
 delta pA
 exact zt
section
variable  {P:xA}{w:xQ}{K:wY}{mg:Str->Option xb}{base:Heap}{f T:Addr}{fd:yd}
theorem js:aQ ["pot", "most", "many", "arrows", "k", "one"] ["pot", "most"] (aB oT):=⟨rfl,rfl,rfl,by decide +kernel,rfl,by decide +kernel,by decide +kernel⟩
theorem vQ (F:Fun K "_law_web" "_law_web" oT f fd)(B:Blt mg)(cLTake:Cal P w K mg base 1 "_law_take" ["pot", "many"] cB):bG P w K mg base CX0 2 f fd ["pot", "most"] pA:=by
 refine F.ok js (λvs H Q E h =>?_) (λcdv A outer s H vs Q E hr h =>?_)
 ·obtain ⟨_,_,rfl,_⟩:=hX.mp h
  rfl
 obtain ⟨p,mo,rfl,hp,mo4,q⟩:=hX.mp h
 have hu:(mX CX0 P w K mg base ["pot", "most", "many", "arrows", "k", "one"] "_law_web" (aB oT) f cdv A outer s H E).nox.A.units+1<cLine:=wD hr
 refine ⟨_,(@ah _ _ _ _ _ (@aH _ _ 2 _ _ _ _ js.nd rfl (Or.inl rfl) (ao cLTake hr (by decide) rfl (@aa _ _ _ _ _ (pv 0) (@aa _ _ _ _ _ (@aE _ _ _ _ _ _ _ _ bh (pv 1) ag) af rfl) rfl)) rfl (by first | exact .inl rfl | exact .inr rfl | assumption))
  (@ah _ _ _ _ _ (@aH _ _ 3 _ _ _ _ js.nd rfl (Or.inl rfl) rW rfl (by first | exact .inl rfl | exact .inr rfl | assumption))
  (@ah _ _ _ _ _ (@aO _ _ _ _ _ _ _ _ (aj lM (pv 2) ag (ay _)) (@ai _ _ _ (@cy _ _ _ _ _ _ _ _ yD rfl (bA rfl B.b_range (@aa _ _ _ _ _ (ao cLTake hr (by decide) rfl (@aa _ _ _ _ _ (pv 0) (@aa _ _ _ _ _ (aA (jU rfl) rfl B.b_min jk (@aa _ _ _ _ _ ag (@aa _ _ _ _ _ (@aE _ _ _ _ _ _ _ _ bh (@aE _ _ _ _ _ _ _ _ gK ag (pv 2)) ag) af rfl) rfl)) af rfl) rfl)) af rfl)) (aD (i:=4) js.nd rfl (Or.inl rfl))
    (@ah _ _ _ _ _ (@aH _ _ 5 _ _ _ _ js.nd rfl (Or.inl rfl) (ao cLTake hr (by decide) rfl (@aa _ _ _ _ _ (pv 0) (@aa _ _ _ _ _ (pv 2) af rfl) rfl)) rfl (by first | exact .inl rfl | exact .inr rfl | assumption))
    (@ai _ _ _ (tX hu (pv 3) (@aN _ _ _ _ _ (@aa _ _ _ _ _ (pv 5) (@aa _ _ _ _ _ (ao cLTake hr (by decide) rfl (@aa _ _ _ _ _ (pv 0) (@aa _ _ _ _ _ (pv 2) af rfl) rfl)) af rfl) rfl)) lJ rfl))) (λ_=>rfl))) ax)
  (@ai _ _ _ (@aq _ _ _ _ (@aN _ _ _ _ _ (@aa _ _ _ _ _ (pv 2) (@aa _ _ _ _ _ (bb bZ rfl B.b_tuple de (@aa _ _ _ _ _ (aA (jI hr.hd) rfl B.b_sorted ko (@aa _ _ _ _ _ (pv 3) af rfl)) af rfl)) af rfl) rfl))))))),?_⟩
 refine ⟨_,rfl,_,rfl,_,_,rfl,rfl,az.mpr ⟨p,(mo:Int)+1,rfl,hp,aF (by lia) (by lia),λd H1 d0 d1 b1 =>?_⟩⟩
 obtain ⟨m,rfl⟩:∃m:Nat,d=m:=⟨d.toNat,by lia⟩
 refine λl hl =>?_
 have nl:l≠p:=bz b1.pot hl
 have hl0:H l=none:=by
  cases h:H l with
  | none=>rfl
  | some o=>rw[b1.st _ _ nl h] at hl;cases hl
 have b2:=b1.same (ab hl (.dT []))
 have el2:Dk m 0 (upd H1 l (.dT [])) l:=⟨[],[],ae,rfl,(λk h=>nomatch h),xg _⟩
 generalize upd H1 l (.dT [])=H2 at b2 el2
 refine ⟨_,rfl,_,_,rfl,rfl,_,rfl,hW (λσ H'=>(∃c4 c5,σ=[some (.ref p),some (.int mo),some (.int m),some (.ref l),c4,c5])/\Bu 1 p H H'/\Dk m 100 H' l) ?_ (λhP z =>?_) λz=>⟨⟨_,_,rfl⟩,b2,?_⟩⟩
 ·rintro σ H3 ⟨⟨c4,c5,rfl⟩,b3,kvs,ks,el,ek,pk,lk⟩
  refine ⟨_,rfl,_,rfl,l,kvs,ks,rfl,el,ek,(λk hk z =>?_),λl2 out hl2 tu pm _ =>?_⟩
  ·obtain ⟨a,b,e,_⟩:=pk k hk
   rw[e] at z;cases z
  refine ⟨l2,_,rfl,.inl ⟨SqL.of ae,λl3 hl3=>⟨(by show 2<=xf;decide),λr hr =>?_⟩⟩⟩
  have s1:=ab hl2 (.lst (out.map λt=>V.ref t.1))
  have s2:=ab hl3 (.tup (out.map λt=>V.ref t.1))
  have s3:=ab hr (.tup [.int m,.ref l3])
  refine q r m out _ (b3.same (s1.trans (s2.trans s3))) ⟨⟨l3,ae,s3 _ _ ae⟩,λu hu=>s3 _ _ (s2 _ _ (s1 _ _ (tu u hu))),λu hu=>pk _ (pm.mem_iff.mp (zr hu)),?_⟩ (by lia)
  have:=pm.length_eq
  rw[wW] at this
  lia
 ·have m0:0<m:=by have:=of_decide_eq_true z;lia
  refine ⟨_,rfl,_,rfl,_,_,rfl,rfl,.inl ⟨by decide,by decide⟩,_,_,rfl,rfl,_,_,rfl,az.mpr ⟨p,_,rfl,b2.pot,aF (by split <;> lia) (by split <;> lia),λn H3 n0 n1 b3 =>?_⟩⟩
  have el3:Dk m 0 H3 l:=by
   obtain ⟨kvs,ks,e,r⟩:=el2
   exact ⟨kvs,ks,b3.st _ _ nl e,r⟩
  have n15:n<20:=by split at n1 <;> lia
  let W1:Nat->St->Hp->Prop:=λk σ H'=>(∃c4 c5,σ=[some (.ref p),some (.int mo),some (.int m),some (.ref l),c4,c5])/\Bu 1 p H H'/\Dk m k H' l
  refine ⟨n,rfl,by lia,by lia,dG W1 ⟨⟨_,_,rfl⟩,b2.trans b3,el3⟩ ?_ ?_⟩
  ·rintro k σ H4 hk ⟨⟨c4,c5,rfl⟩,b4,kvs,ks,el4,ek,pk,lk⟩
   refine ⟨_,rfl,_,rfl,az.mpr ⟨p,m,rfl,b4.pot,aF (by lia) (by lia),λx H5 x0 x1 b5 =>?_⟩⟩
   have b45:=b4.trans b5
   refine ⟨_,rfl,_,rfl,_,rfl,_,rfl,az.mpr ⟨p,m,rfl,b5.pot,aF (by lia) (by lia),λy H6 y0 y1 b6 =>?_⟩⟩
   have b46:=b45.trans b6
   have el6:=b6.st _ _ nl (b5.st _ _ nl el4)
   refine ⟨(by show 2<=xf;decide),λt ht =>?_⟩
   have gt:=ab ht (.tup [.int x,.int y])
   have el7:=gt _ _ el6
   have lkv:kvs.length=ks.length:=by
    have:=congrArg List.length ek
    rw[wW,wW] at this
    exact this
   obtain ⟨ks',ek',mk',lk'⟩:=uq ek [x,y] (V.bl true)
   refine ⟨l,_,rfl,.inr ⟨kvs,[x,y].map Sum.inl,t,el7,rfl,ae,jm (by lia),rfl⟩,⟨_,_,rfl⟩,(b46.same gt).fc hl0 nl _,_,ks',ae,ek',λu hu =>?_,by lia⟩
   rcases mk' u hu with z | z
   ·exact pk u z
   ·exact ⟨x,y,z,x0,x1,y0,y1⟩
  ·rintro σ H4 ⟨⟨c4,c5,rfl⟩,b4,kvs,ks,el4,ek,pk,lk⟩
   exact hP _ _ ⟨⟨_,_,rfl⟩,b4,kvs,ks,el4,ek,pk,by lia⟩
 ·obtain ⟨kvs,ks,e1,e2,e3,e4⟩:=el2
  exact ⟨kvs,ks,e1,e2,e3,by lia⟩
end
theorem at4 {d:Int}(d0:0<=d)(d1:d<4):∃v:Int,atI [V.int 1,V.int 4,V.int 9,V.int (10 ^ (60:Int).toNat-2)] d=some (.int v)/\Big (v+1):=by
 obtain rfl | rfl | rfl | rfl:d=0\/d=1\/d=2\/d=3:=by lia
 all_goals exact ⟨_,rfl,by decide +kernel,by decide +kernel⟩
theorem rep1:∀m:Nat,(yg m [V.int 1]).flatten=(yg m (1:Int)).map V.int
 | 0=>rfl
 | m+1=>by rw[yS,y7,rep1 m,yS];rfl
abbrev jt:Sp:=λvs H Q _=>∃(p:Addr) (m:Nat),vs=[.ref p,.int m]/\Pt 1 H p/\m<=40/\∀(l:Addr) (ws:List Int) (H':Hp),Bu 1 p H H'->H l=none->l≠p->H' l=some (.lst (ws.map V.int))->ws.length=m->Q (.ref l) H'
@[irreducible] def fD:Sp:=jt
theorem dA {vs:List V}{H:Hp}{Q:VK}{E:XK}:fD vs H Q E↔jt vs H Q E:=by
 delta fD
 exact zt
section
variable  {P:xA}{w:xQ}{K:wY}{mg:Str->Option xb}{base:Heap}{f T:Addr}{fd:yd}
theorem ju:aQ ["pot", "many", "size"] ["pot", "many"] (aB g7):=⟨rfl,rfl,rfl,by decide +kernel,rfl,by decide +kernel,by decide +kernel⟩
theorem eJ:(["k", "pot", "size"]:List Str).Nodup:=by decide +kernel
theorem n6 (F:Fun K "_law_weights" "_law_weights" g7 f fd)(B:Blt mg)(cLTake:Cal P w K mg base 1 "_law_take" ["pot", "many"] cB):bG P w K mg base CX0 2 f fd ["pot", "many"] fD:=by
 refine F.ok ju (λvs H Q E h =>?_) (λcdv A outer s H vs Q E hr h =>?_)
 ·obtain ⟨_,_,rfl,_⟩:=dA.mp h
  rfl
 obtain ⟨p,m,rfl,hp,m4,q⟩:=dA.mp h
 refine ⟨_,(@ah _ _ _ _ _ (@aH _ _ 2 _ _ _ _ ju.nd rfl (Or.inr rfl) (@au _ _ _ _ _ _ _ bD (@aI _ _ _ _ (@aa _ _ _ _ _ ag (@aa _ _ _ _ _ ag (@aa _ _ _ _ _ ag (@aa _ _ _ _ _ (@aE _ _ _ _ _ _ _ _ cY (@aE _ _ _ _ _ _ _ _ mV ag ag) ag) af rfl) rfl) rfl) rfl)) (ao cLTake hr (by decide) rfl (@aa _ _ _ _ _ (pv 0) (@aa _ _ _ _ _ ag af rfl) rfl)) (λ_ _=>rfl)) rfl (by first | exact .inl rfl | exact .inr rfl | assumption))
  (@ah _ _ _ _ _ (@aO _ _ _ _ _ _ _ _ (aj bE (pv 2) ag (ay _)) (@ai _ _ _ (@aq _ _ _ _ (@aE _ _ _ _ _ _ _ _ rf (@aI _ _ _ _ (@aa _ _ _ _ _ ag af rfl)) (pv 1)))) ax)
  (@ai _ _ _ (@aq _ _ _ _ (bj ["k", "pot", "size"] [none,some 0,some 2] rfl (bA rfl B.b_range (@aa _ _ _ _ _ (pv 1) af rfl)) rfl (λ_ _ _ _ _=>(aD (i:=0) eJ rfl (Or.inl rfl))) (λ_ _ _ _ _=>bF) (λ_ _ _ _ _=>(ao cLTake hr (by decide) rfl (@aa _ _ _ _ _ (pv 1) (@aa _ _ _ _ _ (@aE _ _ _ _ _ _ _ _ bh (pv 2) ag) af rfl) rfl)))))))),?_⟩
 refine ⟨_,_,rfl,rfl,⟨by decide,by decide,by decide⟩,_,_,rfl,rfl,(by show 4<=xf;decide),λc hc =>?_⟩
 have nc:=bz hp hc
 have b1:=(Bu.refl hp).same (ab hc (.lst [.int 1,.int 4,.int 9,.int (10 ^ (60:Int).toNat-2)]))
 have ec:upd H c (.lst [.int 1,.int 4,.int 9,.int (10 ^ (60:Int).toNat-2)]) c=some (.lst [.int 1,.int 4,.int 9,.int (10 ^ (60:Int).toNat-2)]):=ae
 generalize upd H c (.lst [.int 1,.int 4,.int 9,.int (10 ^ (60:Int).toNat-2)])=H1 at b1 ec
 refine ⟨_,rfl,az.mpr ⟨p,4,rfl,b1.pot,aF (by decide) (by decide),λd H2 d0 d1 b2 =>?_⟩⟩
 obtain ⟨sz,hs,bs⟩:=at4 d0 d1
 have b12:=b1.trans b2
 refine ⟨c,_,d,_,rfl,rfl,SqL.of (b2.st _ _ nc ec),hs,?_⟩
 have fr:∀{a:Addr} {H':Hp},Bu 1 p H H'->H' a=none->a≠p->H a=none:=λ{a H'} b ha n=>by
  cases h:H a with
  | none=>rfl
  | some o=>rw[b.st _ _ n h] at ha;cases ha
 refine ⟨_,rfl,rfl,_,rfl,bR (λz =>?_) λz =>?_⟩
 ·refine ⟨(by show 1<=xf;decide),λo ho =>?_⟩
  have no:=bz b12.pot ho
  have b3:=b12.same (ab ho (.lst [.int 1]))
  refine ⟨_,rfl,o,_,_,rfl,rfl,ae,by lia,by lia,aR (by show 1*(m:Int).toNat<=5000;lia),λl hl =>?_⟩
  have nl:=bz b3.pot hl
  refine q l (yg m 1) _ (b3.same (ab hl _)) (fr b3 hl nl) nl ?_ Bc
  rw[ae, <- rep1,show (m:Int).toNat=m by lia]
 ·refine ⟨_,rfl,(m:Int),rfl,by lia,by lia,bH (λi ys H'=>Bu 1 p H H'/\∃ws:List Int,ys=ws.map V.int/\ws.length=i) ⟨b12,[],rfl,rfl⟩ (aR (by lia)) ?_ ?_⟩
  ·rintro i ys H3 hi _ ⟨b3,ws,rfl,lw⟩ R1 R0 r1 r0
   refine aS ⟨_,rfl,_,rfl,_,_,rfl,rfl,(az (E:=E0)).mpr ⟨p,sz+1,rfl,b3.pot,bs,λx H4 x0 x1 b4=>r1 _ _ ⟨b3.trans b4,ws++[x],by rw[xq];rfl,by rw[w9,lw];rfl⟩⟩⟩
  ·rintro ys H3 _ ⟨b3,ws,rfl,lw⟩ l hl
   have nl:=bz b3.pot hl
   exact q l ws _ (b3.same (ab hl _)) (fr b3 hl nl) nl ae (by lia)
end
abbrev mJ:Sp:=λvs H Q _=>∃(p:Addr) (m:Nat),vs=[.ref p,.int m]/\Pt 1 H p/\m<=40/\∀(k:Addr) (Kp:List Int) (H':Hp),Bu 1 p H H'->H' k=some (.tup (Kp.map V.int))->(∀v∈Kp,0<=v/\v<m)->Kp.length<=m->Q (.ref k) H'
@[irreducible] def iH:Sp:=mJ
theorem fh {vs:List V}{H:Hp}{Q:VK}{E:XK}:iH vs H Q E↔mJ vs H Q E:=by
 delta iH
 exact zt
section
variable  {P:xA}{w:xQ}{K:wY}{mg:Str->Option xb}{base:Heap}{f T:Addr}{fd:yd}
theorem pB:aQ ["pot", "many", "share"] ["pot", "many"] (aB nQ):=⟨rfl,rfl,rfl,by decide +kernel,rfl,by decide +kernel,by decide +kernel⟩
theorem dM:(["place", "pot", "share"]:List Str).Nodup:=by decide +kernel
theorem uu (F:Fun K "_law_kept" "_law_kept" nQ f fd)(B:Blt mg)(cLTake:Cal P w K mg base 1 "_law_take" ["pot", "many"] cB):bG P w K mg base CX0 2 f fd ["pot", "many"] iH:=by
 refine F.ok pB (λvs H Q E h =>?_) (λcdv A outer s H vs Q E hr h =>?_)
 ·obtain ⟨_,_,rfl,_⟩:=fh.mp h
  rfl
 obtain ⟨p,m,rfl,hp,m4,q⟩:=fh.mp h
 refine ⟨_,(@ah _ _ _ _ _ (@aH _ _ 2 _ _ _ _ pB.nd rfl (Or.inr rfl) (@aE _ _ _ _ _ _ _ _ bh ag (ao cLTake hr (by decide) rfl (@aa _ _ _ _ _ (pv 0) (@aa _ _ _ _ _ ag af rfl) rfl))) rfl (by first | exact .inl rfl | exact .inr rfl | assumption))
  (@ai _ _ _ (@aq _ _ _ _ (bb bZ rfl B.b_tuple de (@aa _ _ _ _ _ (bj ["place", "pot", "share"] [none,some 0,some 2] rfl (bA rfl B.b_range (@aa _ _ _ _ _ (pv 1) af rfl)) rfl (λ_ _ _ _ _=>(aD (i:=0) dM rfl (Or.inl rfl))) (λ_ _ _ _ _=>(iV (aj bE (ao cLTake hr (by decide) rfl (@aa _ _ _ _ _ (pv 1) (@aa _ _ _ _ _ (pv 2) af rfl) rfl)) ag (ay _)))) (λ_ _ _ _ _=>(pv 0))) af rfl))))),?_⟩
 refine ⟨_,rfl,az.mpr ⟨p,5,rfl,hp,aF (by decide) (by decide),λd H1 d0 d1 b1=>⟨_,_,rfl,rfl,?_⟩⟩⟩
 refine ⟨_,rfl,(m:Int),rfl,by lia,by lia,bH (λi ys H'=>Bu 1 p H H'/\∃ws:List Int,ys=ws.map V.int/\(∀v∈ws,0<=v/\v<m)/\ws.length<=i) ⟨b1,[],rfl,(λv h=>nomatch h),xg _⟩ (aR (by lia)) ?_ ?_⟩
 ·rintro i ys H3 hi _ ⟨b3,ws,rfl,aw,lw⟩ R1 R0 r1 r0
  refine ⟨_,rfl,_,rfl,(az (E:=E0)).mpr ⟨p,2+d,rfl,b3.pot,aF (by lia) (by lia),λx H4 x0 x1 b4=>⟨rfl,_,rfl,bR (λz =>?_) λz =>?_⟩⟩⟩
  ·refine ⟨_,rfl,r1 _ _ ⟨b3.trans b4,ws++[0+(i:Int)],by rw[xq];rfl,λv hv =>?_,by rw[w9];show _+1<=_;lia⟩⟩
   rcases xx.mp hv with z | z
   ·exact aw v z
   ·rw[xo.mp z];lia
  ·exact r0 _ ⟨b3.trans b4,ws,rfl,aw,by lia⟩
 ·rintro ys H3 _ ⟨b3,ws,rfl,aw,lw⟩ l hl
  have s4:=ab hl (.lst (ws.map V.int))
  refine ⟨l,_,rfl,.inl ⟨SqL.of ae,λk hk=>q k ws _ ((b3.same s4).same (ab hk _)) ae aw (by lia)⟩⟩
end
open PySem L2
abbrev so:Sp:=λvs H Q _=>∃(r p:Addr) (m:Nat) (ts:List (Addr×List Int)) (Z:List Int),vs=[.ref r,.ref p]/\Wb H r m ts/\m<=200/\H p=some (.tup (Z.map V.int))/\Z.length<=200/\∀(b:Bool) H',aK H H'->(b=true↔IsR (ts.map (·.2)) Z)->Q (.bl b) H'
@[irreducible] def ku:Sp:=so
theorem dN {vs:List V}{H:Hp}{Q:VK}{E:XK}:ku vs H Q E↔so vs H Q E:=by
 delta ku
 exact zt
section
variable  {P:xA}{w:xQ}{K:wY}{mg:Str->Option xb}{base:Heap}{f T:Addr}{fd:yd}
theorem qG:aQ ["web", "ring"] ["web", "ring"] (aB jh):=⟨rfl,rfl,rfl,by decide +kernel,rfl,by decide +kernel,by decide +kernel⟩
theorem fi:(["k", "ring", "web"]:List Str).Nodup:=by decide +kernel
theorem qH (F:Fun K "_law_is_ring" "_law_is_ring" jh f fd)(B:Blt mg):bG P w K mg base CX0 1 f fd ["web", "ring"] ku:=by
 refine F.ok qG (λvs H Q E h =>?_) (λcdv A outer s H vs Q E hr h =>?_)
 ·obtain ⟨_,_,_,_,_,rfl,_⟩:=dN.mp h
  rfl
 obtain ⟨r,p,m,ts,Z,rfl,W,m2,ep,l5,q⟩:=dN.mp h
 refine ⟨_,(@ah _ _ _ _ _ (@aO _ _ _ _ _ _ _ _ (PW.pt (ck (aj bE (aA aX rfl B.b_len cu (@aa _ _ _ _ _ (pv 1) af rfl)) ag (ay _)) (ck (aj qY (aA iu rfl B.b_len cu (@aa _ _ _ _ _ (bb (i9 (w:=w) rfl hr.hd) rfl B.b_set sd (@aa _ _ _ _ _ (pv 1) af rfl)) af rfl)) (aA aX rfl B.b_len cu (@aa _ _ _ _ _ (pv 1) af rfl)) (ay _)) (ck (aj gj (aA (nH rfl) rfl B.b_min jk (@aa _ _ _ _ _ (pv 1) af rfl)) ag (ay _)) (cx (aj uD (aA (nN rfl) rfl B.b_max vP (@aa _ _ _ _ _ (pv 1) af rfl)) (@au _ _ _ _ _ _ _ av (pv 0) ag (λ_ _=>rfl)) (ay _))))))) (@ai _ _ _ (@aq _ _ _ _ lJ)) ax)
  (@ai _ _ _ (@aq _ _ _ _ (aA (dI rfl) rfl B.b_all hJ (@aa _ _ _ _ _ (bj ["k", "ring", "web"] [none,some 1,some 0] rfl (bA rfl B.b_range (@aa _ _ _ _ _ (aA aX rfl B.b_len cu (@aa _ _ _ _ _ (pv 1) af rfl)) af rfl)) rfl (λ_ _ _ _ _=>(aD (i:=0) fi rfl (Or.inl rfl))) (λ_ _ _ _ _=>bF) (λ_ _ _ _ _=>(bU (kS (hu8 hr)) (@aN _ _ _ _ _ (@aa _ _ _ _ _ (@au _ _ _ _ _ _ _ (fv (K:=K)) (pv 1) (@aE _ _ _ _ _ _ _ _ cY (pv 0) ag) (λ_ _=>rfl)) (@aa _ _ _ _ _ (@au _ _ _ _ _ _ _ (fv (K:=K)) (pv 1) (pv 0) (λ_ _=>rfl)) af rfl) rfl)) (@au _ _ _ _ _ _ _ (fv (K:=K)) (pv 2) ag (λ_ _=>rfl)) rfl))) af rfl))))),?_⟩
 have inr:=λh:IsR (ts.map (·.2)) Z=>IsR.inr W.ok h
 obtain ⟨t,e1,e2⟩:=W.at'
 have lz:(Z.map V.int).length=Z.length:=wW _
 refine ⟨_,rfl,p,_,rfl,.inr (SqT.of ep),rfl,_,rfl,?_⟩
 rw[lz]
 by_cases z0:Z.length=0
 ·rw[decide_eq_true (by rw[z0];rfl)]
  exact aS (aS (q false H (aK.refl _) ⟨λz=>(by cases z),λz=>absurd (AW.mp z0) z.1⟩))
 rw[decide_eq_false (by intro z;injection z with z;lia)]
 have zn:Z≠[]:=λz=>z0 (by rw[z];rfl)
 refine aT ⟨_,rfl,p,Z,rfl,.inr (SqT.of ep),by lia,λa us ha mu nu lu =>?_⟩
 have ga:=ab ha (jE w a (us.map V.int))
 have sl:=oU nu mu
 refine ⟨a,us.map V.int,rfl,ae,by rw[wW];lia,?_⟩
 generalize upd H a (jE w a (us.map V.int))=H1 at ga
 refine ⟨_,rfl,p,_,rfl,.inr (SqT.of (ga _ _ ep)),rfl,_,rfl,?_⟩
 rw[lz,wW]
 by_cases nd:Z.Nodup
 case neg =>
  rw[decide_eq_false (by rw[iE,sl];exact nd)]
  exact aS (aS (q false _ ga ⟨λz=>(by cases z),λz=>absurd z.2.1 nd⟩))
 refine uG (iE.mpr (sl.mpr nd)) ?_
 have ep1:=ga _ _ ep
 have W1:=W.same ga
 refine ⟨_,rfl,p,Z,rfl,SqT.of ep1,zn,λM hM mn=>⟨_,_,rfl,rfl,_,rfl,?_⟩⟩
 by_cases c1:M<0
 ·rw[decide_eq_true c1]
  refine aS (aS (q false _ ga ⟨λz=>(by cases z),λz =>?_⟩))
  have:=(inr z M hM).1
  lia
 rw[decide_eq_false c1]
 refine aT ⟨_,rfl,p,Z,rfl,SqT.of ep1,zn,λN hN mx=>⟨_,rfl,r,_,0,_,rfl,rfl,SqT.of (ga _ _ e1),rfl,_,_,rfl,rfl,_,rfl,?_⟩⟩
 by_cases c2:(m:Int)<=N
 ·rw[decide_eq_true c2]
  refine aS (q false _ ga ⟨λz=>(by cases z),λz =>?_⟩)
  have:=(inr z N hN).2
  lia
 rw[decide_eq_false c2]
 have rng:∀v∈Z,0<=v/\v<m:=λv hv=>⟨by have:=mn v hv;lia,by have:=mx v hv;lia⟩
 have li:((Z.length:Nat):Int).toNat=Z.length:=by lia
 let W0:Nat->List V->Hp->Prop:=λi ys H'=>aK H1 H'/\ys=((yj i).map λk=>decide ([prv Z k,Z.getD k 0]∈ts.map (·.2))).map V.bl
 refine aT ⟨_,rfl,p,_,rfl,.inr (SqT.of ep1),((Z.length:Nat):Int),by rw[lz],by lia,by lia,bH W0 ⟨aK.refl _,rfl⟩ (aR (by lia)) ?_ ?_⟩
 ·rintro i ys H2 hi _ ⟨s2,rfl⟩ R1 R0 r1 r0
  rw[li] at hi
  rw[CO]
  refine aS ⟨_,rfl,_,rfl,_,_,rfl,rfl,p,_,_,_,rfl,rfl,SqT.of (s2 _ _ ep1),k8 hi,_,rfl,_,rfl,p,_,_,_,rfl,rfl,SqT.of (s2 _ _ ep1),jL hi,(by show 2<=xf;decide),λc hc =>?_⟩
  have g3:=s2.trans (ab hc (.tup [.int (prv Z i),.int (Z.getD i 0)]))
  refine ⟨_,rfl,r,_,1,_,rfl,rfl,SqT.of (g3 _ _ (ga _ _ e1)),rfl,t,c,ts,[prv Z i,Z.getD i 0],rfl,rfl,g3 _ _ (ga _ _ e2),(W1.same g3).tup,ae,r1 _ _ ⟨g3,?_⟩⟩
  rw[D4,xq,xq];rfl
 ·rintro ys H2 _ ⟨s2,rfl⟩ l hl
  rw[li]
  refine ⟨l,_,rfl,SqL.of ae,q _ _ (ga.trans (s2.trans (ab hl _))) ?_⟩
  rw[Be,yU]
  constructor
  ·intro h
   exact ⟨zn,nd,λk hk=>of_decide_eq_true (h k (yf.mpr hk))⟩
  ·intro h k hk
   exact decide_eq_true (h.2.2 k (yf.mp hk))
end
theorem qI {c A:Prop}[Decidable c]{P:Hp->Prop}{H:Hp}(G:Hp->Prop)(hP:∀H',G H'->P H')(h1:(∀H',G H'->P H')->c->A)(h2:¬ c->G H):if c then A else P H:=by
 by_cases h:c
 ·rw[if_pos h];exact h1 hP h
 ·rw[if_neg h];exact hP H (h2 h)
def Tn (m:Nat):Nat->Nat
 | 0=>1
 | k+1=>1+m*Tn m k
theorem sq (m:Nat):∀k,1<=Tn m k
 | 0=>xg _
 | k+1=>zN _ _
def Wt (m:Nat)(us:List (Addr×List Int)):Nat:=(us.map λu=>Tn m (m-u.2.length)).sum
theorem sr (m:Nat):∀us:List (Addr×List Int),us.length<=Wt m us
 | []=>xg _
 | u :: us=>by
  have:=sr m us
  have h:=sq m (m-u.2.length)
  unfold Wt at this ⊢
  rw[xJ,Ex,xV]
  lia
theorem vR (m:Nat)(us vs:List (Addr×List Int)):Wt m (us++vs)=Wt m us+Wt m vs:=by
 unfold Wt
 rw[xq,CM]
theorem n8 {m L:Nat}:∀{vs:List (Addr×List Int)},(∀v∈vs,v.2.length=L)->Wt m vs=vs.length*Tn m (m-L)
 | [],_=>by simp[Wt]
 | v :: vs,h=>by
  have h1:=n8 (m:=m) (vs:=vs) λu hu=>h u (xR _ hu)
  unfold Wt at h1 ⊢
  rw[xJ,Ex,h1,h v xN,xV,Nat.succ_mul]
  lia
theorem vS {m:Nat}(h:m<=5):m*Tn m (m-1)<=4000:=by
 obtain rfl | rfl | rfl | rfl | rfl | rfl:m=0\/m=1\/m=2\/m=3\/m=4\/m=5:=by lia
 all_goals decide
def Pth (m:Nat)(Z:List Int):Prop:=Z≠[]/\Z.Nodup/\∀v∈Z,0<=v/\v<m
theorem Pth.len {m:Nat}{Z:List Int}(h:Pth m Z):Z.length<=m:=se h.2.1 h.2.2
theorem oe {Z:List Int}{y:Int}(h:Z.Nodup)(n:y∉Z):(Z++[y]).Nodup:=DI.mpr ⟨h,by simp,λa ha b hb e=>by
 rw[xo.mp hb] at e
 exact n (e ▸ ha)⟩
theorem uv {H:Hp}{us:List (Addr×List Int)}{p:Addr}{xs ys:List V}(h:Tus H us)(e:H p=some (.lst xs)):Tus (upd H p (.lst ys)) us:=λu hu=>by
 rw[aG (jR (h u hu) e nofun)];exact h u hu
abbrev mK:Sp:=λvs H Q _=>∃(r:Addr) (m:Nat) (ts:List (Addr×List Int)),vs=[.ref r]/\Wb H r m ts/\m<=5/\∀(l:Addr) (us:List (Addr×List Int)) (H':Hp),aK H H'->H l=none->H' l=some (.lst (us.map λu =>.ref u.1))->Tus H' us->(∀u∈us,Pth m u.2)->us.length<=4000->Q (.ref l) H'
@[irreducible] def iI:Sp:=mK
theorem fj {vs:List V}{H:Hp}{Q:VK}{E:XK}:iI vs H Q E↔mK vs H Q E:=by
 delta iI
 exact zt
section
variable  {P:xA}{w:xQ}{K:wY}{mg:Str->Option xb}{base:Heap}{f T:Addr}{fd:yd}
theorem di:aQ ["web", "found", "paths", "at", "path", "place"] ["web"] (aB kY):=⟨rfl,rfl,rfl,by decide +kernel,rfl,by decide +kernel,by decide +kernel⟩
theorem jv:(["place"]:List Str).Nodup:=by decide +kernel
theorem su (F:Fun K "_law_rings" "_law_rings" kY f fd)(B:Blt mg)(cLIsRing:Cal P w K mg base 1 "_law_is_ring" ["web", "ring"] ku):bG P w K mg base CX0 2 f fd ["web"] iI:=by
 refine F.ok di (λvs H Q E h =>?_) (λcdv A outer s H vs Q E hr h =>?_)
 ·obtain ⟨_,_,_,rfl,_⟩:=fj.mp h
  rfl
 obtain ⟨r,m,ts,rfl,W,m5,q⟩:=fj.mp h
 refine ⟨_,(@ah _ _ _ _ _ (@aH _ _ 1 _ _ _ _ di.nd rfl (Or.inl rfl) (@aI _ _ _ _ af) rfl (by first | exact .inl rfl | exact .inr rfl | assumption))
  (@ah _ _ _ _ _ (cz (i:=2) ["place"] [none] rfl di.nd rfl rfl (bA rfl B.b_range (@aa _ _ _ _ _ (@au _ _ _ _ _ _ _ av (pv 0) ag (λ_ _=>rfl)) af rfl)) rfl (λ_ _ _ _ _=>(aD (i:=0) jv rfl (Or.inl rfl))) (λ_ _ _ _ _=>bF) (λ_ _ _ _ _=>(@aN _ _ _ _ _ (@aa _ _ _ _ _ (pv 0) af rfl))))
  (@ah _ _ _ _ _ (@aH _ _ 3 _ _ _ _ di.nd rfl (Or.inl rfl) ag rfl (by first | exact .inl rfl | exact .inr rfl | assumption))
  (@ah _ _ _ _ _ (qV yD (aj gj (pv 3) (aA aX rfl B.b_len cu (@aa _ _ _ _ _ (pv 2) af rfl)) (ay _))
   (@ah _ _ _ _ _ (@aH _ _ 4 _ _ _ _ di.nd rfl (Or.inl rfl) (@au _ _ _ _ _ _ _ bD (pv 2) (pv 3) (λ_ _=>rfl)) rfl (by first | exact .inl rfl | exact .inr rfl | assumption))
   (@ah _ _ _ _ _ (@aO _ _ _ _ _ _ _ _ (bY (ao cLIsRing hr (by decide) rfl (@aa _ _ _ _ _ (pv 0) (@aa _ _ _ _ _ (pv 4) af rfl) rfl))) (@ai _ _ _ (kF (rb A0 AN AO gN (pv 1) (@aa _ _ _ _ _ (pv 4) af rfl)))) ax)
   (@ah _ _ _ _ _ (@cy _ _ _ _ _ _ _ _ yD rfl (pN rfl B.b_range (@aa _ _ _ _ _ (@aE _ _ _ _ _ _ _ _ bh (@au _ _ _ _ _ _ _ av (pv 4) ag (λ_ _=>rfl)) ag) (@aa _ _ _ _ _ (@au _ _ _ _ _ _ _ av (pv 0) ag (λ_ _=>rfl)) af rfl) rfl)) (aD (i:=5) di.nd rfl (Or.inl rfl))
    (@ai _ _ _ (@aO _ _ _ _ _ _ _ _ (PW.pt (cK (aj bV (pv 5) (pv 4) rfl) (cg (aj (kS (hu8 hr)) (@aN _ _ _ _ _ (@aa _ _ _ _ _ (@au _ _ _ _ _ _ _ av (pv 4) (oq kG ag) (λ_ _=>rfl)) (@aa _ _ _ _ _ (pv 5) af rfl) rfl)) (@au _ _ _ _ _ _ _ av (pv 0) ag (λ_ _=>rfl)) rfl)))) (@ai _ _ _ (kF (rb A0 AN AO gN (pv 2) (@aa _ _ _ _ _ (@aE _ _ _ _ _ _ _ _ da (pv 4) (@aN _ _ _ _ _ (@aa _ _ _ _ _ (pv 5) af rfl))) af rfl)))) ax)) (λ_=>rfl))
   (@ai _ _ _ (@aH _ _ 3 _ _ _ _ di.nd rfl (Or.inl rfl) (@aE _ _ _ _ _ _ _ _ bh (pv 3) ag) rfl (by first | exact .inl rfl | exact .inr rfl | assumption)))))))
  (@ai _ _ _ (@aq _ _ _ _ (pv 1))))))),?_⟩
 obtain ⟨t,e1,e2⟩:=W.at'
 refine ⟨(by show 0<=xf;decide),λfl hfl =>?_⟩
 have s1:=ab hfl (.lst [])
 have efl:upd H fl (.lst []) fl=some (.lst (([]:List (Addr×List Int)).map λu =>.ref u.1)):=ae
 generalize upd H fl (.lst [])=H1 at s1 efl
 let W1:Nat->List V->Hp->Prop:=λi ys H'=>aK H1 H'/\∃us:List (Addr×List Int),ys=us.map (λu =>.ref u.1)/\Tus H' us/\(∀u∈us,Pth m u.2/\u.2.length=1)/\us.length=i
 refine ⟨_,rfl,r,_,0,_,rfl,rfl,SqT.of (s1 _ _ e1),rfl,(m:Int),rfl,by lia,by lia,bH W1 ⟨aK.refl _,[],rfl,(λu h=>nomatch h),(λu h=>nomatch h),rfl⟩ (aR (by lia)) ?_ ?_⟩
 ·rintro i ys H2 hi _ ⟨s2,us,rfl,tu,pu,lu⟩ R1 R0 r1 r0
  refine aS ⟨_,rfl,(by show 1<=xf;decide),λo ho=>r1 _ _ ⟨s2.trans (ab ho _),us++[(o,[0+(i:Int)])],by rw[xq];rfl,(tu.same (ab ho _)).snoc ae,λu hu =>?_,by rw[w9,lu];rfl⟩⟩
  rcases xx.mp hu with z | z
  ·exact pu u z
  ·rw[xo.mp z]
   exact ⟨⟨by simp,by simp,λv hv=>by rw[xo.mp hv];lia⟩,rfl⟩
 rintro ys H2 _ ⟨s2,us0,rfl,tu0,pu0,lu0⟩ p hp
 have s3:=s1.trans (s2.trans (ab hp (.lst (us0.map λu=>V.ref u.1))))
 have hp0:H p=none:=(s1.trans s2).free hp
 have efl3:=(ab hp (.lst (us0.map λu=>V.ref u.1))) _ _ (s2 _ _ efl)
 have ep3:upd H2 p (.lst (us0.map λu=>V.ref u.1)) p=some (.lst (us0.map λu=>V.ref u.1)):=ae
 have tu3:=tu0.same (ab hp (.lst (us0.map λu=>V.ref u.1)))
 have npf:p≠fl:=λz=>by rw[z,s2 _ _ efl] at hp;cases hp
 generalize upd H2 p (.lst (us0.map λu=>V.ref u.1))=H3 at s3 efl3 ep3 tu3
 have w0:Wt m us0<=4000:=by
  rw[n8 (L:=1) λv hv=>(pu0 v hv).2,lu0,show (m:Int).toNat=m by lia]
  exact vS m5
 refine qW (λσ H'=>∃(at':Nat) (us fs:List (Addr×List Int)),(∃c4 c5,σ=[some (.ref r),some (.ref fl),some (.ref p),some (.int (at':Nat)),c4,c5])/\aK H H'/\H' p=some (.lst (us.map λu =>.ref u.1))/\Tus H' us/\(∀u∈us,Pth m u.2)/\H' fl=some (.lst (fs.map λu =>.ref u.1))/\Tus H' fs/\(∀u∈fs,Pth m u.2)/\fs.length<=at'/\at'<=us.length/\at'+Wt m (us.drop at')<=4000)
  (λ(σ:St) (_:Hp)=>match σ[3]? with | some (some (V.int a))=>(5000-a).toNat | _=>0) ⟨0,us0,[],⟨_,_,rfl⟩,s3,ep3,tu3,λu hu=>(pu0 u hu).1,efl3,(λu h=>nomatch h),(λu h=>nomatch h),xg _,yk _,by rw[BS];lia⟩ ?_ ?_
 ·rintro σ H4 ⟨at',us,fs,⟨c4,c5,rfl⟩,s4,ep4,tu4,pu4,ef4,tf4,pf4,lf4,la,wt⟩
  have lum:(us.map λu=>V.ref u.1).length=us.length:=wW _
  have lul:us.length<=4000:=by
   have:=sr m (us.drop at')
   rw[y3] at this
   lia
  refine ⟨_,rfl,_,rfl,p,_,rfl,.inl (SqL.of ep4),_,_,rfl,rfl,_,rfl,?_⟩
  rw[lum]
  by_cases ha:at'<us.length
  case neg =>
   rw[decide_eq_false (by lia)]
   exact aT ⟨_,rfl,q fl fs _ s4 hfl ef4 tf4 pf4 (by lia)⟩
  rw[decide_eq_true (by lia)]
  obtain ⟨u,eu⟩:∃u,us[at']? = some u:=⟨us[at'],xp ha⟩
  have um:=xE eu
  obtain ⟨zn,nd,rng⟩:=pu4 u um
  have lu:=(pu4 u um).len
  have zl:0<u.2.length:=yK.mpr zn
  have drp:us.drop at'=u :: us.drop (at'+1):=by
   rw[BQ ha]
   congr 1
   exact (xv.mp eu).2
  have wt':at'+(Tn m (m-u.2.length)+Wt m (us.drop (at'+1)))<=4000:=by
   rw[drp] at wt
   exact wt
  have a0:atI (u.2.map V.int) 0=some (.int (u.2.getD 0 0)):=jL (n:=0) zl
  have al:=k8 (Z:=u.2) (k:=0) zl
  have g0:0<=u.2.getD 0 0/\u.2.getD 0 0<m:=rng _ (by rw[xu,xp zl];exact zk _)
  refine aS ⟨_,rfl,_,rfl,p,_,_,_,rfl,rfl,SqL.of ep4,fu (by rw[xW,eu];rfl),?_⟩
  have eu4:=tu4 u um
  have lzm:(u.2.map V.int).length=u.2.length:=wW _
  refine ⟨_,rfl,_,rfl,dN.mpr ⟨r,u.1,m,ts,u.2,rfl,W.same s4,by lia,eu4,by lia,λb1 H5 s5 _=>⟨_,rfl,?_⟩⟩⟩
  have s45:=s4.trans s5
  refine qI (λH6=>∃fs':List (Addr×List Int),aK H H6/\H6 p=some (.lst (us.map λu =>.ref u.1))/\Tus H6 us/\H6 fl=some (.lst (fs'.map λu =>.ref u.1))/\Tus H6 fs'/\(∀u∈fs',Pth m u.2)/\fs'.length<=at'+1) ?_ (λhP hb =>?_) λ_=>⟨fs,s45,s5 _ _ ep4,tu4.same s5,s5 _ _ ef4,tf4.same s5,pf4,by lia⟩
  ·rintro H6 ⟨fs',s6,ep6,tu6,ef6,tf6,pf6,lf6⟩
   let W2:Nat->St->Hp->Prop:=λi σ H'=>(∃c5,σ=[some (.ref r),some (.ref fl),some (.ref p),some (.int (at':Nat)),some (.ref u.1),c5])/\aK H H'/\H' fl=some (.lst (fs'.map λu =>.ref u.1))/\Tus H' fs'/\∃vs:List (Addr×List Int),H' p=some (.lst ((us++vs).map λu =>.ref u.1))/\Tus H' (us++vs)/\(∀v∈vs,Pth m v.2/\v.2.length=u.2.length+1)/\vs.length<=i
   refine ⟨_,rfl,u.1,_,0,_,rfl,rfl,SqT.of (tu6 u um),a0,_,_,rfl,rfl,_,rfl,r,_,0,_,rfl,rfl,SqT.of (s6 _ _ e1),rfl,u.2.getD 0 0+1,(m:Int),rfl,⟨by lia,by lia,by lia,by lia⟩,dG W2 ⟨⟨_,rfl⟩,s6,ef6,tf6,[],by rw[yu];exact ep6,by rw[yu];exact tu6,(λv h=>nomatch h),xg _⟩ ?_ ?_⟩
   ·rintro i σ H7 hi ⟨⟨c5,rfl⟩,s7,ef7,tf7,vs,ep7,tu7,pv7,lv7⟩
    have hi5:i<5:=by lia
    refine ⟨_,rfl,_,rfl,u.1,_,rfl,.inr (SqT.of (tu7 u (yQ _ um))),rfl,aV u.2,_,rfl,?_⟩
    show if (if true=true then !inV (.int (u.2.getD 0 0+1+i)) (u.2.map V.int) else _)=true then _ else _
    rw[if_pos rfl,eG]
    by_cases hin:u.2.getD 0 0+1+i∈u.2
    ·rw[decide_eq_true hin]
     exact aT (aT ⟨⟨_,rfl⟩,s7,ef7,tf7,vs,ep7,tu7,pv7,by lia⟩)
    rw[decide_eq_false hin]
    refine aS ⟨_,rfl,1,rfl,u.1,_,_,_,rfl,rfl,SqT.of (tu7 u (yQ _ um)),al,_,rfl,(by show 2<=xf;decide),λc8 hc8 =>?_⟩
    have s8:=ab hc8 (.tup [.int (prv u.2 0),.int (u.2.getD 0 0+1+i)])
    have e8:upd H7 c8 (.tup [.int (prv u.2 0),.int (u.2.getD 0 0+1+i)]) c8=some (.tup ([prv u.2 0,u.2.getD 0 0+1+(i:Int)].map V.int)):=ae
    generalize upd H7 c8 (.tup [.int (prv u.2 0),.int (u.2.getD 0 0+1+i)])=H8 at s8 e8
    have s780:=s7.trans s8
    refine ⟨_,rfl,r,_,1,_,rfl,rfl,SqT.of (s780 _ _ e1),rfl,t,c8,ts,_,rfl,rfl,s780 _ _ e2,(W.same s780).tup,e8,_,rfl,bR (λz =>?_) λz=>⟨⟨_,rfl⟩,s7.trans s8,s8 _ _ ef7,tf7.same s8,vs,s8 _ _ ep7,tu7.same s8,pv7,by lia⟩⟩
    have s78:=s7.trans s8
    have tu8:=tu7.same s8
    refine ⟨_,rfl,.inl ⟨rfl,_,SqL.of (s8 _ _ ep7)⟩,_,rfl,_,rfl,(by show 1<=xf;decide),λo ho =>?_⟩
    have g9:=ab ho (.tup [.int (u.2.getD 0 0+1+i)])
    refine ⟨u.1,o,_,_,rfl,rfl,g9 _ _ (tu8 u (yQ _ um)),ae,aR (by rw[lzm];show _+1<=_;lia),λo2 H10 s10 e10 =>?_⟩
    have g10:=g9.trans s10
    have ep10:=g10 _ _ (s8 _ _ ep7)
    have e10':H10 o2=some (.tup ((u.2++[u.2.getD 0 0+1+(i:Int)]).map V.int)):=by rw[e10,xq];rfl
    have lvu:((us++vs).map λu=>V.ref u.1).length<5000:=by rw[wW,w9];lia
    refine ⟨p,_,_,rfl,rfl,ep10,jm (by lia),⟨_,rfl⟩,aK.fc (s78.trans g10) hp0 _,by rw[aG npf.symm];exact g10 _ _ (s8 _ _ ef7),uv ((tf7.same s8).same g10) ep10,vs++[(o2,u.2++[u.2.getD 0 0+1+(i:Int)])],by rw[ae, <- xU,xq (l₁:=us++vs)];rfl,by rw[<- xU];exact uv ((tu8.same g10).snoc e10') ep10,λv hv =>?_,by rw[w9];show _+1<=_;lia⟩
    rcases xx.mp hv with z | z
    ·exact pv7 v z
    ·rw[xo.mp z]
     refine ⟨⟨by simp,oe nd hin,λv hv =>?_⟩,by rw[w9];rfl⟩
     rcases xx.mp hv with z | z
     ·exact rng v z
     ·rw[xo.mp z];lia
   ·rintro σ H7 ⟨⟨c5,rfl⟩,s7,ef7,tf7,vs,ep7,tu7,pv7,lv7⟩
    refine ⟨_,rfl,_,_,rfl,rfl,⟨at'+1,us++vs,fs',⟨_,_,rfl⟩,s7,ep7,tu7,λv hv =>?_,ef7,tf7,pf6,lf6,by rw[w9];lia,?_⟩,?_⟩
    ·rcases xx.mp hv with z | z
     ·exact pu4 v z
     ·exact (pv7 v z).1
    ·rw[Ac (by lia),vR]
     rw[n8 (L:=u.2.length+1) λv hv=>(pv7 v hv).2]
     rcases vs with _ | ⟨v,vs⟩
     ·have:=sq m (m-u.2.length)
      simp only[zV,Nat.zero_mul]
      lia
     ·have l1:=(pv7 v xN)
      have l2:=l1.1.len
      rw[show m-u.2.length=(m-(u.2.length+1))+1 by lia] at wt'
      have:Tn m (m-(u.2.length+1)+1)=1+m*Tn m (m-(u.2.length+1)):=rfl
      rw[this] at wt'
      have h3:(v :: vs).length*Tn m (m-(u.2.length+1))<=m*Tn m (m-(u.2.length+1)):=Nat.mul_le_mul_right _ (by lia)
      lia
    ·show (5000-((at':Int)+1)).toNat<(5000-(at':Int)).toNat
     lia
  ·have ef6:=s5 _ _ ef4
   refine ⟨_,rfl,.inl ⟨rfl,_,SqL.of ef6⟩,_,rfl,fl,_,_,rfl,rfl,ef6,jm (by rw[wW];lia),hP _ ⟨fs++[u],aK.fc s45 hfl _,(by rw[aG npf];exact s5 _ _ ep4),(uv (tu4.same s5) ef6),(by rw[ae,xq];rfl),(uv ((tf4.same s5).snoc (s5 _ _ eu4)) ef6),(λv hv =>?_),(by rw[w9];show _+1<=_;lia)⟩⟩
   rcases xx.mp hv with z' | z'
   ·exact pf4 v z'
   ·rw[xo.mp z'];exact pu4 u um
 ·rintro σ H Q Q' h ⟨v,e,w,e',p,xs,h1,h2,i,j,h3,h4,b,h5,y⟩
  exact ⟨v,e,w,e',p,xs,h1,h2,i,j,h3,h4,b,h5,h _ _ y⟩
end
open PySem L2
def itL:Option MnR.Rs->List V
 | none=>[]
 | some x=>MnR.its x
def ShL (H:Hp)(v:V)(x:Option MnR.Rs):Prop:=∃a,v = .ref a/\H a=some (.lst (itL x))
theorem ShL.same {H H':Hp}{v:V}{x:Option MnR.Rs}(h:ShL H v x)(s:aK H H'):ShL H' v x:=by
 obtain ⟨a,e,h⟩:=h
 exact ⟨a,e,s _ _ h⟩
theorem pC {l:List Int}{p:Int->Prop}[DecidablePred p]:(l.map λx=>decide (p x)).any id=true↔∃x∈l,p x:=by
 rw[CN,Ad]
 exact ⟨λ⟨x,h,z⟩=>⟨x,h,of_decide_eq_true z⟩,λ⟨x,h,z⟩=>⟨x,h,decide_eq_true z⟩⟩
theorem iJ {l:List Int}{p:Int->Prop}[DecidablePred p]:(l.map λx=>decide (p x)).all id=true↔∀x∈l,p x:=by
 rw[Be,yU]
 exact ⟨λz x h=>of_decide_eq_true (z x h),λz x h=>decide_eq_true (z x h)⟩
abbrev pD:Sp:=λvs H Q _=>∃(r wa t k p:Addr) (m:Nat) (ts:List (Addr×List Int)) (ws T Kp:List Int) (rs:List (List Int×Int)),vs=[.ref r,.ref wa,.ref t,.ref k,.ref p]/\Wb H r m ts/\m<=200/\H wa=some (.lst (ws.map V.int))/\ws.length=m/\H t=some (.lst (T.map V.int))/\(∀v∈T,0<=v/\v<m)/\T.length<=1000/\H k=some (.lst (Kp.map V.int))/\Rows true H p rs/\∀(v:V) (H':Hp) (b:Option MnR.Rs),aK H H'->ShL H' v b->(cA m (ts.map (·.2)) ws T Kp rs->b=some (some (wsum ws T+(rs.map (·.2)).sum)))->(¬ cA m (ts.map (·.2)) ws T Kp rs->b=none)->Q v H'
@[irreducible] def ly:Sp:=pD
theorem fY {vs:List V}{H:Hp}{Q:VK}{E:XK}:ly vs H Q E↔pD vs H Q E:=by
 delta ly
 exact zt
section
variable  {P:xA}{w:xQ}{K:wY}{mg:Str->Option xb}{base:Heap}{f T:Addr}{fd:yd}
theorem eC:aQ ["web", "weights", "taken", "kept", "rows", "total", "ring", "share", "place", "laid"] ["web", "weights", "taken", "kept", "rows"] (aB nR):=⟨rfl,rfl,rfl,by decide +kernel,rfl,by decide +kernel,by decide +kernel⟩
theorem eM:(["place", "weights"]:List Str).Nodup:=by decide +kernel
theorem fI:(["place", "taken"]:List Str).Nodup:=by decide +kernel
theorem fZ:(["place", "kept"]:List Str).Nodup:=by decide +kernel
theorem dB:(["ring", "share", "place"]:List Str).Nodup:=by decide +kernel
theorem uw (F:Fun K "_law_leaf" "_law_leaf" nR f fd)(B:Blt mg)(cLIsRing:Cal P w K mg base 1 "_law_is_ring" ["web", "ring"] ku):bG P w K mg base CX0 2 f fd ["web", "weights", "taken", "kept", "rows"] ly:=by
 refine F.ok eC (λvs H Q E h =>?_) (λcdv A outer s H vs Q E hr h =>?_)
 ·obtain ⟨_,_,_,_,_,_,_,_,_,_,_,rfl,_⟩:=fY.mp h
  rfl
 obtain ⟨r,wa,t,k,p,m,ts,ws,T,Kp,rs,rfl,W,m2,hw,lw,et,tm,lt,ek,R,q⟩:=fY.mp h
 refine ⟨_,(@ah _ _ _ _ _ (@aH _ _ 5 _ _ _ _ eC.nd rfl (Or.inl rfl) (aA (gv hr.hd) rfl B.b_sum jl (@aa _ _ _ _ _ (bj ["place", "weights"] [none,some 1] rfl (@cC _ _ _ _ (pv 2)) rfl (λ_ _ _ _ _=>(aD (i:=0) eM rfl (Or.inl rfl))) (λ_ _ _ _ _=>bF) (λ_ _ _ _ _=>(@au _ _ _ _ _ _ _ (lS (K:=K)) (pv 1) (pv 0) (λ_ _=>rfl)))) af rfl)) rfl (by first | exact .inl rfl | exact .inr rfl | assumption))
  (@ah _ _ _ _ _ (@cy _ _ _ _ _ _ _ _ yD rfl (@cC _ _ _ _ (pv 4)) (iO rfl (bQ (aD (i:=6) eC.nd rfl (Or.inl rfl)) (bQ (aD (i:=7) eC.nd rfl (Or.inl rfl)) gi)))
   (@ah _ _ _ _ _ (@aO _ _ _ _ _ _ _ _ (PW.pt (ck (aj gj (pv 7) ag (ay _)) (ck (fO (bY (ao cLIsRing hr (by decide) rfl (@aa _ _ _ _ _ (pv 0) (@aa _ _ _ _ _ (pv 6) af rfl) rfl)))) (cx (bY (aA (gw rfl) rfl B.b_any k7 (@aa _ _ _ _ _ (bj ["place", "taken"] [none,some 2] rfl (@cW _ _ _ _ (pv 6)) rfl (λ_ _ _ _ _=>(aD (i:=0) fI rfl (Or.inl rfl))) (λ_ _ _ _ _=>bF) (λ_ _ _ _ _=>(bU (eX (K:=K)) (pv 0) (pv 1) rfl))) af rfl))))))) (@ai _ _ _ (@aq _ _ _ _ (@aI _ _ _ _ af))) ax)
   (@ah _ _ _ _ _ (@aO _ _ _ _ _ _ _ _ (bY (aA (dI rfl) rfl B.b_all hJ (@aa _ _ _ _ _ (bj ["place", "kept"] [none,some 3] rfl (@cW _ _ _ _ (pv 6)) rfl (λ_ _ _ _ _=>(aD (i:=0) fZ rfl (Or.inl rfl))) (λ_ _ _ _ _=>bF) (λ_ _ _ _ _=>(bU (eX (K:=K)) (pv 0) (pv 1) rfl))) af rfl))) (@ai _ _ _ (@aq _ _ _ _ (@aI _ _ _ _ af))) ax)
   (@ai _ _ _ (@aH _ _ 5 _ _ _ _ eC.nd rfl (Or.inl rfl) (@aE _ _ _ _ _ _ _ _ bh (pv 5) (pv 7)) rfl (by first | exact .inl rfl | exact .inr rfl | assumption))))) (λ_=>rfl))
  (@ah _ _ _ _ _ (@cy _ _ _ _ _ _ _ _ yD rfl (bA rfl B.b_range (@aa _ _ _ _ _ (@au _ _ _ _ _ _ _ av (pv 0) ag (λ_ _=>rfl)) af rfl)) (aD (i:=8) eC.nd rfl (Or.inr rfl))
   (@ah _ _ _ _ _ (@aH _ _ 9 _ _ _ _ eC.nd rfl (Or.inl rfl) (aA (gv hr.hd) rfl B.b_sum jl (@aa _ _ _ _ _ (bj ["ring", "share", "place"] [none,none,some 8] rfl (@cC _ _ _ _ (pv 4)) rfl (λ_ _ _ _ _=>(lX (K:=K) (i:=0) (j:=1) dB rfl rfl (Or.inl rfl) (Or.inl rfl))) (λ_ _ _ _ _=>(iV (aj (eX (K:=K)) (pv 2) (pv 0) rfl))) (λ_ _ _ _ _=>(pv 1))) af rfl)) rfl (by first | exact .inl rfl | exact .inr rfl | assumption))
   (@ai _ _ _ (@aO _ _ _ _ _ _ _ _ (PW.pt (cK (aj bV (pv 8) (pv 3) rfl) (cg (aj lM (pv 9) (@au _ _ _ _ _ _ _ bD (pv 1) (pv 8) (λ_ _=>rfl)) (ay _))))) (@ai _ _ _ (@aq _ _ _ _ (@aI _ _ _ _ af))) ax))) (λ_=>rfl))
  (@ai _ _ _ (@aq _ _ _ _ (@aI _ _ _ _ (@aa _ _ _ _ _ aU (@aa _ _ _ _ _ (pv 5) af rfl) rfl))))))),?_⟩
 obtain ⟨tt,e1,e2⟩:=W.at'
 obtain ⟨us,hp,hu,eus,lus⟩:=R
 have hp:H p=some (.lst (us.map λu =>.ref u.1)):=hp
 have lum:(us.map λu=>V.ref u.1).length=us.length:=wW _
 have cut:∀{i:Nat} {u:Addr×Addr×List Int×Int},us[i]? = some u->rs.take (i+1)=rs.take i++[(u.2.2.1,u.2.2.2)]:=λ{i u} e=>by
  rw[<- eus, <- Av, <- Av,take_snoc e]
 refine ⟨_,rfl,t,rfl,⟨_,SqL.of et⟩,uO (λv=>ws.getD v.toNat 0) V.int et (by lia) (λv hv R hR =>?_) λl hl =>?_⟩
 ·obtain ⟨v0,v1⟩:=tm v hv
  have ha:=jL (ws:=ws) (n:=v.toNat) (by lia)
  rw[show ((v.toNat:Nat):Int)=v by lia] at ha
  exact ⟨_,rfl,_,rfl,wa,_,v,_,rfl,rfl,SqL.of hw,ha,hR⟩
 have s1:=ab hl (.lst ((T.map λv=>ws.getD v.toNat 0).map V.int))
 refine ⟨l,_,rfl,ae,?_⟩
 generalize upd H l (.lst ((T.map λv=>ws.getD v.toNat 0).map V.int))=H1 at s1
 let W0:Nat->St->Hp->Prop:=λi σ H'=>(∃c6 c7,σ=[some (.ref r),some (.ref wa),some (.ref t),some (.ref k),some (.ref p),some (.int (wsum ws T+((rs.take i).map (·.2)).sum)),c6,c7,none,none])/\aK H H'/\∀r∈rs.take i,mE (ts.map (·.2)) T Kp r
 refine ⟨_,rfl,p,rfl,⟨_,SqL.of (s1 _ _ hp)⟩,dF (xs:=us.map λu =>.ref u.1) W0 ⟨⟨_,_,by show _=[_,_,_,_,_,some (V.int (wsum ws T+0)),_,_,_,_];rw[DN];rfl⟩,s1,(λr h=>nomatch h)⟩ (λi σ H' _ h=>SqL.of (h.2.1 _ _ hp)) ?_ ?_⟩
 ·rintro i x σ H2 hx ⟨⟨c6,c7,rfl⟩,s2,al⟩
  obtain ⟨u,eu,rfl⟩:=kq hx
  have um:=xE eu
  obtain ⟨h1,h2,h3⟩:=hu u um
  have rm:(u.2.2.1,u.2.2.2)∈rs:=by rw[<- eus];exact zr (f:=(·.2.2)) um
  refine ⟨u.1,_,rfl,SqT.of (s2 _ _ h1),rfl,_,_,rfl,_,_,rfl,rfl,?_⟩
  refine ⟨_,rfl,_,_,rfl,rfl,_,rfl,bR (λz0=>aS (⟨(by show 0<=xf;decide),λo ho=>q _ _ none (s2.trans (ab ho _)) ⟨o,rfl,ae⟩ (λz =>?_) λ_=>rfl⟩)) λz0 =>?_⟩
  ·have:=(z.1 _ rm).1
   have z0:=of_decide_eq_true z0
   have:1<=u.2.2.2:=this
   lia
  have sh1:1<=u.2.2.2:=by have:=mt decide_eq_true z0;lia
  refine ⟨_,rfl,_,rfl,dN.mpr ⟨r,u.2.1,m,ts,u.2.2.1,rfl,W.same s2,m2,s2 _ _ h2,h3,λb1 H3 s3 hb=>⟨_,rfl,?_⟩⟩⟩
  have s23:=s2.trans s3
  cases b1 with
  | false =>
   refine aS (aS (⟨(by show 0<=xf;decide),λo ho=>q _ _ none (s23.trans (ab ho _)) ⟨o,rfl,ae⟩ (λz =>?_) λ_=>rfl⟩))
   exact absurd (hb.mpr (z.1 _ rm).2.1) xw
  | true =>
   have ir:=hb.mp rfl
   refine aT ⟨_,rfl,u.2.1,rfl,⟨_,SqT.of (s23 _ _ h2)⟩,gC (λv=>decide (v∈T)) V.bl (s23 _ _ h2) (by lia) (λv hv R hR =>?_) λl3 hl3 =>?_⟩
   ·refine ⟨_,rfl,_,rfl,t,_,rfl,.inl (SqL.of (s23 _ _ et)),rfl,aV T,?_⟩
    show R (V.bl (inV (.int v) (T.map V.int))) _
    rw[eG]
    exact hR
   refine ⟨l3,_,rfl,SqL.of ae,_,rfl,bR (λz1 =>?_) λz1 =>?_⟩
   ·have s4:=s23.trans (ab hl3 (.lst ((u.2.2.1.map λv=>decide (v∈T)).map V.bl)))
    refine ⟨(by show 0<=xf;decide),λo ho=>q _ _ none (s4.trans (ab ho _)) ⟨o,rfl,ae⟩ (λz =>?_) λ_=>rfl⟩
    obtain ⟨v,hv,hT⟩:=pC.mp z1
    exact absurd hT ((z.1 _ rm).2.2.1 v hv)
   have s4:=s23.trans (ab hl3 (.lst ((u.2.2.1.map λv=>decide (v∈T)).map V.bl)))
   generalize upd H3 l3 (.lst ((u.2.2.1.map λv=>decide (v∈T)).map V.bl))=H4 at s4
   refine ⟨_,rfl,u.2.1,rfl,⟨_,SqT.of (s4 _ _ h2)⟩,gC (λv=>decide (v∈Kp)) V.bl (s4 _ _ h2) (by lia) (λv hv R hR =>?_) λl5 hl5 =>?_⟩
   ·refine ⟨_,rfl,_,rfl,k,_,rfl,.inl (SqL.of (s4 _ _ ek)),rfl,aV Kp,?_⟩
    show R (V.bl (inV (.int v) (Kp.map V.int))) _
    rw[eG]
    exact hR
   have s5:=s4.trans (ab hl5 (.lst ((u.2.2.1.map λv=>decide (v∈Kp)).map V.bl)))
   refine ⟨l5,_,rfl,SqL.of ae,_,rfl,bR (λz2 =>?_) λz2 =>?_⟩
   ·refine ⟨(by show 0<=xf;decide),λo ho=>q _ _ none (s5.trans (ab ho _)) ⟨o,rfl,ae⟩ (λz =>?_) λ_=>rfl⟩
    obtain ⟨v,hv,hK⟩:=(z.1 _ rm).2.2.2
    exact absurd (iJ.mp z2 v hv) hK
   refine ⟨_,rfl,_,rfl,_,_,rfl,rfl,⟨some (.ref u.2.1),some (.int u.2.2.2),?_⟩,s5,λr' hr' =>?_⟩
   ·rw[cut eu,xq,CM]
    show _=[_,_,_,_,_,some (V.int (wsum ws T+(((rs.take i).map (·.2)).sum+(u.2.2.2+0)))),_,_,_,_]
    rw[DN, <- Int.add_assoc];rfl
   ·rw[cut eu] at hr'
    rcases xx.mp hr' with z | z
    ·exact al r' z
    ·rw[xo.mp z]
     refine ⟨sh1,ir,λv hv hT=>z1 (pC.mpr ⟨v,hv,hT⟩),?_⟩
     have:¬ ∀v∈u.2.2.1,v∈Kp:=λh=>z2 (iJ.mpr h)
     refine BZ λc=>this λv hv=>BZ λd=>c ⟨v,hv,d⟩
 rintro σ H2 ⟨⟨c6,c7,rfl⟩,s2,al⟩
 have lr:rs.length=us.length:=by rw[<- eus,wW]
 rw[lum, <- lr,zo] at al ⊢
 let W1:Nat->St->Hp->Prop:=λi σ H'=>(∃c8 c9,σ=[some (.ref r),some (.ref wa),some (.ref t),some (.ref k),some (.ref p),some (.int (wsum ws T+(rs.map (·.2)).sum)),c6,c7,c8,c9])/\aK H H'/\∀j:Nat,j<i->(j:Int)∉Kp->laid rs j<=ws.getD j 0
 refine ⟨_,rfl,r,_,0,_,rfl,rfl,SqT.of (s2 _ _ e1),rfl,(m:Int),rfl,by lia,by lia,dG W1 ⟨⟨_,_,rfl⟩,s2,λj h=>absurd h (D5 j)⟩ ?_ ?_⟩
 ·rintro i σ H3 hi ⟨⟨c8,c9,rfl⟩,s3,hj⟩
  have him:i<m:=by lia
  rw[CO]
  refine ⟨_,rfl,p,rfl,⟨_,SqL.of (s3 _ _ hp)⟩,ng (ts:=us.map λu=>(u.1,V.ref u.2.1,V.int u.2.2.2)) (λj ys H'=>H'=H3/\ys=(((rs.take j).filter λr=>decide ((i:Int)∈r.1)).map (·.2)).map V.int) (by decide) ⟨rfl,rfl⟩ (by rw[wW];exact aR (by lia)) (λj ys H' _ h=>⟨by rw[h.1,BK];exact SqL.of (s3 _ _ hp),λt' ht' =>?_⟩) ?_ ?_⟩
  ·obtain ⟨u,hu',rfl⟩:=yG.mp ht'
   rw[h.1]
   exact SqT.of (s3 _ _ (hu u hu').1)
  ·rintro j t' ys H4 ht' _ ⟨rfl,rfl⟩ R1 R0 r1 r0
   rw[xW] at ht'
   obtain ⟨u,eu,rfl⟩:=Option.map_eq_some_iff.mp ht'
   have h2:=(hu u (xE eu)).2.1
   refine ⟨_,rfl,_,rfl,u.2.1,_,rfl,.inr (SqT.of (s3 _ _ h2)),rfl,aV _,_,rfl,?_⟩
   show if inV (.int i) (u.2.2.1.map V.int)=true then _ else _
   rw[eG]
   have e5:((rs.take (j+1)).filter λr=>decide ((i:Int)∈r.1))=((rs.take j).filter λr=>decide ((i:Int)∈r.1))++if (i:Int)∈u.2.2.1 then [(u.2.2.1,u.2.2.2)] else []:=by
    rw[cut eu,BL]
    congr 1
    by_cases c:(i:Int)∈u.2.2.1
    ·rw[if_pos c,AY (by exact decide_eq_true c)];rfl
    ·rw[if_neg c,AZ (by exact λz=>c (of_decide_eq_true z))];rfl
   by_cases c:(i:Int)∈u.2.2.1
   ·rw[decide_eq_true c]
    refine aS ⟨_,rfl,r1 _ _ ⟨rfl,?_⟩⟩
    rw[e5,if_pos c,xq,xq];rfl
   ·rw[decide_eq_false c]
    refine aT (r0 _ ⟨rfl,?_⟩)
    rw[e5,if_neg c,yu]
  ·rintro ys H4 _ ⟨rfl,rfl⟩ l4 hl4
   rw[wW, <- lr,zo]
   have s4:=s3.trans (ab hl4 (.lst (((rs.filter λr=>decide ((i:Int)∈r.1)).map (·.2)).map V.int)))
   refine ⟨l4,_,rfl,ae,?_⟩
   generalize upd H4 l4 (.lst (((rs.filter λr=>decide ((i:Int)∈r.1)).map (·.2)).map V.int))=H5 at s4
   refine ⟨_,rfl,_,rfl,k,_,rfl,.inl (SqL.of (s4 _ _ ek)),rfl,aV Kp,_,rfl,?_⟩
   show if (if true=true then !inV (.int i) (Kp.map V.int) else _)=true then _ else _
   rw[if_pos rfl,eG]
   by_cases h2:(i:Int)∈Kp
   ·rw[decide_eq_true h2]
    refine aT (aT ⟨⟨_,_,rfl⟩,s4,λj hj' hk =>?_⟩)
    by_cases c:j=i
    ·subst c;exact absurd h2 hk
    ·exact hj j (by lia) hk
   rw[decide_eq_false h2]
   refine aS ⟨_,rfl,_,rfl,_,rfl,wa,_,i,_,rfl,rfl,SqL.of (s4 _ _ hw),jL (by lia),_,_,rfl,rfl,_,rfl,bR (λz3=>⟨(by show 0<=xf;decide),λo ho=>q _ _ none (s4.trans (ab ho _)) ⟨o,rfl,ae⟩ (λz =>?_) λ_=>rfl⟩) λz3 =>?_⟩
   ·have h1:=z.2 i him h2
    have h3:=of_decide_eq_true z3
    unfold laid at h1
    lia
   ·refine ⟨⟨_,_,rfl⟩,s4,λj hj' hk =>?_⟩
    by_cases c:j=i
    ·subst c
     have h3:=mt decide_eq_true z3
     unfold laid
     lia
    ·exact hj j (by lia) hk
 rintro σ H3 ⟨⟨c8,c9,rfl⟩,s3,hj⟩
 have RO:cA m (ts.map (·.2)) ws T Kp rs:=⟨al,λi hi=>hj i (by lia)⟩
 exact ⟨_,rfl,(by show 2<=xf;decide),λo ho=>q _ _ (some (some (wsum ws T+(rs.map (·.2)).sum))) (s3.trans (ab ho _)) ⟨o,rfl,ae⟩ (λ_=>rfl) λz=>absurd RO z⟩
end
@[irreducible] def og:Nat->Sp
 | 0=>λ_ _ _ _=>False
 | n+1=>λvs H Q _=>∃(r wa t k a:Addr) (m:Nat) (ts:List (Addr×List Int)) (ws T Kp:List Int) (tr:Tr),vs=[.ref r,.ref wa,.ref t,.ref k,.ref a]/\Wb H r m ts/\m<=200/\H wa=some (.lst (ws.map V.int))/\ws.length=m/\H t=some (.lst (T.map V.int))/\(∀v∈T,0<=v/\v<m)/\T.length+n<=1000/\H k=some (.lst (Kp.map V.int))/\Kp.length+n<=1000/\bJ true H n a tr/\∀(v:V) (H':Hp),aK H H'->ShL H' v (shw m (ts.map (·.2)) ws T Kp tr)->Q v H'
theorem dO {n:Nat}{vs:List V}{H:Hp}{Q:VK}{E:XK}:og (n+1) vs H Q E↔∃(r wa t k a:Addr) (m:Nat) (ts:List (Addr×List Int)) (ws T Kp:List Int) (tr:Tr),vs=[.ref r,.ref wa,.ref t,.ref k,.ref a]/\Wb H r m ts/\m<=200/\H wa=some (.lst (ws.map V.int))/\ws.length=m/\H t=some (.lst (T.map V.int))/\(∀v∈T,0<=v/\v<m)/\T.length+n<=1000/\H k=some (.lst (Kp.map V.int))/\Kp.length+n<=1000/\bJ true H n a tr/\∀(v:V) (H':Hp),aK H H'->ShL H' v (shw m (ts.map (·.2)) ws T Kp tr)->Q v H':=by
 unfold og
 exact zt
theorem ux {vs:List V}{H:Hp}{Q:VK}{E:XK}:¬ og 0 vs H Q E:=by
 unfold og
 exact id
theorem sv {m:Nat}{ns:List (List Int)}{ws T Kp Z:List Int}(h:IsR ns Z/\∀v∈Z,v∈Kp):shw m ns ws T Kp (.ring Z)=some none:=by rw[shw,if_pos h]
theorem kz {m:Nat}{ns:List (List Int)}{ws T Kp Z:List Int}(h:¬ (IsR ns Z/\∀v∈Z,v∈Kp)):shw m ns ws T Kp (.ring Z)=none:=by rw[shw,if_neg h]
theorem sA {m:Nat}{ns:List (List Int)}{ws T Kp:List Int}{rs:List (List Int×Int)}(h:cA m ns ws T Kp rs):shw m ns ws T Kp (.rows rs)=some (some (wsum ws T+(rs.map (·.2)).sum)):=by rw[shw,if_pos h]
theorem qJ {m:Nat}{ns:List (List Int)}{ws T Kp:List Int}{rs:List (List Int×Int)}(h:¬ cA m ns ws T Kp rs):shw m ns ws T Kp (.rows rs)=none:=by rw[shw,if_neg h]
theorem du {K:wY}{H:Hp}{n:Nat}(z:Str):EqS K H n (.str z) (.str z):=by cases n <;> exact .inr (.inl ⟨z,rfl,rfl⟩)
theorem iK {K:wY}{H:Hp}{n:Nat}(z:Int):EqS K H n (.int z) (.int z):=by cases n <;> exact .inl ⟨z,rfl,rfl⟩
section
variable  {P:xA}{w:xQ}{K:wY}{mg:Str->Option xb}{base:Heap}{f T:Addr}{fd:yd}
theorem gE:aQ ["web", "weights", "taken", "kept", "tree", "place", "first", "second"] ["web", "weights", "taken", "kept", "tree"] (aB kZ):=⟨rfl,rfl,rfl,by decide +kernel,rfl,by decide +kernel,by decide +kernel⟩
theorem fJ:(["place", "kept"]:List Str).Nodup:=by decide +kernel
theorem sC (F:Fun K "_law_shows" "_law_shows" kZ f fd)(B:Blt mg)(n:Nat)(cLShows:Cal P w K mg base (3+n) "_law_shows" ["web", "weights", "taken", "kept", "tree"] (og n))(cLLeaf:Cal P w K mg base 2 "_law_leaf" ["web", "weights", "taken", "kept", "rows"] ly)(cLIsRing:Cal P w K mg base 1 "_law_is_ring" ["web", "ring"] ku):bG P w K mg base CX0 (3+n+1) f fd ["web", "weights", "taken", "kept", "tree"] (og (n+1)):=by
 refine F.ok gE (λvs H Q E h =>?_) (λcdv A outer s H vs Q E hr h =>?_)
 ·obtain ⟨_,_,_,_,_,_,_,_,_,_,_,rfl,_⟩:=dO.mp h
  rfl
 obtain ⟨r,wa,t,k,a,m,ts,ws,T,Kp,tr,rfl,W,m2,hw,lw,et,tm,lt,ek,lk,tr0,q⟩:=dO.mp h
 refine ⟨_,(@ah _ _ _ _ _ (@aO _ _ _ _ _ _ _ _ (aj bE (@au _ _ _ _ _ _ _ av (pv 4) ag (λ_ _=>rfl)) aU (ay _)) (@ah _ _ _ _ _ (@aO _ _ _ _ _ _ _ _ (PW.pt (cK (bY (ao cLIsRing hr (by lia) rfl (@aa _ _ _ _ _ (pv 0) (@aa _ _ _ _ _ (@au _ _ _ _ _ _ _ av (pv 4) ag (λ_ _=>rfl)) af rfl) rfl))) (cg (bY (aA (dI rfl) rfl B.b_all hJ (@aa _ _ _ _ _ (bj ["place", "kept"] [none,some 3] rfl (@cW _ _ _ _ (@au _ _ _ _ _ _ _ av (pv 4) ag (λ_ _=>rfl))) rfl (λ_ _ _ _ _=>(aD (i:=0) fJ rfl (Or.inl rfl))) (λ_ _ _ _ _=>bF) (λ_ _ _ _ _=>(bU (eX (K:=K)) (pv 0) (pv 1) rfl))) af rfl)))))) (@ai _ _ _ (@aq _ _ _ _ (@aI _ _ _ _ (@aa _ _ _ _ _ aU af rfl)))) ax)
   (@ai _ _ _ (@aq _ _ _ _ (@aI _ _ _ _ af)))) ax)
  (@ah _ _ _ _ _ (@aO _ _ _ _ _ _ _ _ (aj bE (@au _ _ _ _ _ _ _ av (pv 4) ag (λ_ _=>rfl)) aU (ay _)) (@ai _ _ _ (@aq _ _ _ _ (ao cLLeaf hr (by lia) rfl (@aa _ _ _ _ _ (pv 0) (@aa _ _ _ _ _ (pv 1) (@aa _ _ _ _ _ (pv 2) (@aa _ _ _ _ _ (pv 3) (@aa _ _ _ _ _ (@au _ _ _ _ _ _ _ av (pv 4) ag (λ_ _=>rfl)) af rfl) rfl) rfl) rfl) rfl)))) ax)
  (@ah _ _ _ _ _ (@aH _ _ 5 _ _ _ _ gE.nd rfl (Or.inl rfl) (@au _ _ _ _ _ _ _ av (pv 4) ag (λ_ _=>rfl)) rfl (by first | exact .inl rfl | exact .inr rfl | assumption))
  (@ah _ _ _ _ _ (@aO _ _ _ _ _ _ _ _ (PW.pt (ck (aj qw (pv 5) (bb ip rfl B.b_range mC (@aa _ _ _ _ _ (@au _ _ _ _ _ _ _ av (pv 0) ag (λ_ _=>rfl)) af rfl)) rfl) (ck (aj gM (pv 5) (pv 2) rfl) (cx (aj gM (pv 5) (pv 3) rfl))))) (@ai _ _ _ (@aq _ _ _ _ (@aI _ _ _ _ af))) ax)
  (@ah _ _ _ _ _ (@aH _ _ 6 _ _ _ _ gE.nd rfl (Or.inl rfl) (ao cLShows hr (xg _) rfl (@aa _ _ _ _ _ (pv 0) (@aa _ _ _ _ _ (pv 1) (@aa _ _ _ _ _ (@aE _ _ _ _ _ _ _ _ bW (pv 2) (@aI _ _ _ _ (@aa _ _ _ _ _ (pv 5) af rfl))) (@aa _ _ _ _ _ (pv 3) (@aa _ _ _ _ _ (@au _ _ _ _ _ _ _ av (pv 4) ag (λ_ _=>rfl)) af rfl) rfl) rfl) rfl) rfl)) rfl (by first | exact .inl rfl | exact .inr rfl | assumption))
  (@ah _ _ _ _ _ (@aH _ _ 7 _ _ _ _ gE.nd rfl (Or.inl rfl) (ao cLShows hr (xg _) rfl (@aa _ _ _ _ _ (pv 0) (@aa _ _ _ _ _ (pv 1) (@aa _ _ _ _ _ (pv 2) (@aa _ _ _ _ _ (@aE _ _ _ _ _ _ _ _ bW (pv 3) (@aI _ _ _ _ (@aa _ _ _ _ _ (pv 5) af rfl))) (@aa _ _ _ _ _ (@au _ _ _ _ _ _ _ av (pv 4) ag (λ_ _=>rfl)) af rfl) rfl) rfl) rfl) rfl)) rfl (by first | exact .inl rfl | exact .inr rfl | assumption))
  (@ah _ _ _ _ _ (@aO _ _ _ _ _ _ _ _ (PW.pt (ck (aj (cR hr) (pv 6) (@aI _ _ _ _ af) (ay _)) (cx (aj (cR hr) (pv 7) (@aI _ _ _ _ af) (ay _))))) (@ai _ _ _ (@aq _ _ _ _ (@aI _ _ _ _ af))) ax)
  (@ah _ _ _ _ _ (@aO _ _ _ _ _ _ _ _ (PW.pt (ck (aj (cR hr) (pv 6) (@aI _ _ _ _ (@aa _ _ _ _ _ aU af rfl)) (ay _)) (cx (aj (cR hr) (pv 7) (@aI _ _ _ _ (@aa _ _ _ _ _ aU af rfl)) (ay _))))) (@ai _ _ _ (@aq _ _ _ _ (@au _ _ _ _ _ _ _ bD (@aI _ _ _ _ (@aa _ _ _ _ _ (pv 6) (@aa _ _ _ _ _ (pv 7) af rfl) rfl)) (bb pO rfl B.b_int r9 (@aa _ _ _ _ _ (bU (cR hr) (pv 6) (@aI _ _ _ _ (@aa _ _ _ _ _ aU af rfl)) (ay _)) af rfl)) (λ_ _=>rfl)))) ax)
  (@ai _ _ _ (@aq _ _ _ _ (@aI _ _ _ _ (@aa _ _ _ _ _ aU (@aa _ _ _ _ _ (aA (jU rfl) rfl B.b_min jk (@aa _ _ _ _ _ (@au _ _ _ _ _ _ _ bD (pv 6) ag (λ_ _=>rfl)) (@aa _ _ _ _ _ (@au _ _ _ _ _ _ _ bD (pv 7) ag (λ_ _=>rfl)) af rfl) rfl)) af rfl) rfl)))))))))))),?_⟩
 obtain ⟨tt,e1,e2⟩:=W.at'
 cases tr with
 | ring Z =>
  obtain ⟨p,ea,ep,lz⟩:=tr0
  refine ⟨_,rfl,a,_,0,_,rfl,rfl,SqT.of ea,rfl,rfl,_,rfl,?_⟩
  rw[decide_eq_true (rfl:V.str "round" = V.str "round")]
  refine aS ⟨_,rfl,_,rfl,a,_,1,_,rfl,rfl,SqT.of ea,rfl,dN.mpr ⟨r,p,m,ts,Z,rfl,W,m2,ep,lz,λb1 H1 s1 hb=>⟨_,rfl,?_⟩⟩⟩
  cases b1 with
  | false =>
   refine aT (aT ⟨(by show 0<=xf;decide),λo ho=>q _ _ (s1.trans (ab ho _)) ?_⟩)
   rw[kz λz=>xw (hb.mpr z.1)]
   exact ⟨o,rfl,ae⟩
  | true =>
   refine aS ⟨_,rfl,a,_,1,_,rfl,rfl,SqT.of (s1 _ _ ea),rfl,p,rfl,⟨_,SqT.of (s1 _ _ ep)⟩,gC (λv=>decide (v∈Kp)) V.bl (s1 _ _ ep) (by lia) (λv hv R hR =>?_) λl2 hl2 =>?_⟩
   ·refine ⟨_,rfl,_,rfl,k,_,rfl,.inl (SqL.of (s1 _ _ ek)),rfl,aV Kp,?_⟩
    show R (V.bl (inV (.int v) (Kp.map V.int))) _
    rw[eG]
    exact hR
   have s2:=s1.trans (ab hl2 (.lst ((Z.map λv=>decide (v∈Kp)).map V.bl)))
   refine ⟨l2,_,rfl,SqL.of ae,_,rfl,bR (λz =>?_) λz =>?_⟩
   ·refine ⟨(by show 1<=xf;decide),λo ho=>q _ _ (s2.trans (ab ho _)) ?_⟩
    rw[sv ⟨hb.mp rfl,iJ.mp z⟩]
    exact ⟨o,rfl,ae⟩
   ·refine ⟨(by show 0<=xf;decide),λo ho=>q _ _ (s2.trans (ab ho _)) ?_⟩
    rw[kz λh=>z (iJ.mpr h.2)]
    exact ⟨o,rfl,ae⟩
 | rows rs =>
  obtain ⟨p,ea,R⟩:=tr0
  refine ⟨_,rfl,a,_,0,_,rfl,rfl,SqT.of ea,rfl,rfl,_,rfl,?_⟩
  rw[decide_eq_false (λz=>oX (V.str.inj z))]
  refine aT ⟨_,rfl,a,_,0,_,rfl,rfl,SqT.of ea,rfl,rfl,_,rfl,?_⟩
  rw[decide_eq_true (rfl:V.str "shares" = V.str "shares")]
  refine aS ⟨_,rfl,_,rfl,_,rfl,_,rfl,_,rfl,a,_,1,_,rfl,rfl,SqT.of ea,rfl,fY.mpr ⟨r,wa,t,k,p,m,ts,ws,T,Kp,rs,rfl,W,m2,hw,lw,et,tm,by lia,ek,R,λv H' b s' hs h1 h2=>q v H' s' ?_⟩⟩
  by_cases cc:cA m (ts.map (·.2)) ws T Kp rs
  ·rw[sA cc, <- h1 cc];exact hs
  ·rw[qJ cc, <- h2 cc];exact hs
 | part v x y =>
  obtain ⟨n',p,p',rfl,ea,hx,hy⟩:=tr0
  refine ⟨_,rfl,a,_,0,_,rfl,rfl,SqT.of ea,rfl,rfl,_,rfl,?_⟩
  rw[decide_eq_false (λz=>oY (V.str.inj z))]
  refine aT ⟨_,rfl,a,_,0,_,rfl,rfl,SqT.of ea,rfl,rfl,_,rfl,?_⟩
  rw[decide_eq_false (λz=>oZ (V.str.inj z))]
  refine aT ⟨_,rfl,a,_,1,_,rfl,rfl,SqT.of ea,rfl,?_⟩
  refine ⟨_,rfl,_,rfl,r,_,0,_,rfl,rfl,SqT.of e1,rfl,(m:Int),rfl,λg1 hg1 =>?_⟩
  have s1:=ab hg1 (.rng 0 m)
  refine ⟨v,m,g1,rfl,rfl,ae,_,rfl,?_⟩
  generalize upd H g1 (.rng 0 m)=H1 at s1
  by_cases c0:0<=v/\v<(m:Int)
  case neg =>
   rw[decide_eq_false c0]
   refine aS (aS ⟨(by show 0<=xf;decide),λo ho=>q _ _ (s1.trans (ab ho _)) ?_⟩)
   rw[iG λz=>c0 ⟨z.1,z.2.1⟩]
   exact ⟨o,rfl,ae⟩
  rw[decide_eq_true c0]
  refine aT ⟨_,rfl,_,rfl,t,_,rfl,.inl (SqL.of (s1 _ _ et)),rfl,aV T,_,rfl,?_⟩
  show if inV (.int v) (T.map V.int)=true then _ else _
  rw[eG]
  by_cases c1:v∈T
  ·rw[decide_eq_true c1]
   refine aS (aS ⟨(by show 0<=xf;decide),λo ho=>q _ _ (s1.trans (ab ho _)) ?_⟩)
   rw[iG λz=>z.2.2.1 c1]
   exact ⟨o,rfl,ae⟩
  rw[decide_eq_false c1]
  refine aT ⟨_,rfl,_,rfl,k,_,rfl,.inl (SqL.of (s1 _ _ ek)),rfl,aV Kp,_,rfl,?_⟩
  show if inV (.int v) (Kp.map V.int)=true then _ else _
  rw[eG]
  by_cases c2:v∈Kp
  ·rw[decide_eq_true c2]
   refine aS ⟨(by show 0<=xf;decide),λo ho=>q _ _ (s1.trans (ab ho _)) ?_⟩
   rw[iG λz=>z.2.2.2 c2]
   exact ⟨o,rfl,ae⟩
  rw[decide_eq_false c2]
  have op:Opn m T Kp v:=⟨c0.1,c0.2,c1,c2⟩
  rw[sj op] at q
  refine aT ⟨_,rfl,_,rfl,_,rfl,_,rfl,(by show 1<=xf;decide),λo ho =>?_⟩
  have s2:=s1.trans (ab ho (.lst [.int v]))
  refine ⟨t,o,_,_,rfl,rfl,SqL.of (s2 _ _ et),SqL.of ae,aR (by rw[wW];show _+1<=_;lia),λt2 ht2 =>?_⟩
  have s3:=s2.trans (ab ht2 (.lst (T.map V.int++[.int v])))
  have e3:upd (upd H1 o (.lst [.int v])) t2 (.lst (T.map V.int++[.int v])) t2=some (.lst ((T++[v]).map V.int)):=by rw[ae,xq];rfl
  generalize upd (upd H1 o (.lst [.int v])) t2 (.lst (T.map V.int++[.int v]))=H3 at s3 e3
  refine ⟨_,rfl,_,rfl,a,_,2,_,rfl,rfl,SqT.of (s3 _ _ ea),rfl,dO.mpr ⟨r,wa,t2,k,p,m,ts,ws,T++[v],Kp,x,rfl,W.same s3,m2,s3 _ _ hw,lw,e3,λu hu =>?_,by rw[w9];show _+1+_<=_;lia,s3 _ _ ek,by lia,hx.same s3,λv1 H4 s4 h1 =>?_⟩⟩
  ·rcases xx.mp hu with z | z
   ·exact tm u z
   ·rw[xo.mp z];exact c0
  have s34:=s3.trans s4
  refine ⟨_,rfl,_,rfl,_,rfl,_,rfl,_,rfl,(by show 1<=xf;decide),λo5 ho5 =>?_⟩
  have s5:=s34.trans (ab ho5 (.lst [.int v]))
  have h1':=h1.same (ab ho5 (.lst [.int v]))
  refine ⟨k,o5,_,_,rfl,rfl,SqL.of (s5 _ _ ek),SqL.of ae,aR (by rw[wW];show _+1<=_;lia),λk2 hk2 =>?_⟩
  have s6:=s5.trans (ab hk2 (.lst (Kp.map V.int++[.int v])))
  have e6:upd (upd H4 o5 (.lst [.int v])) k2 (.lst (Kp.map V.int++[.int v])) k2=some (.lst ((Kp++[v]).map V.int)):=by rw[ae,xq];rfl
  have h1':=h1'.same (ab hk2 (.lst (Kp.map V.int++[.int v])))
  generalize upd (upd H4 o5 (.lst [.int v])) k2 (.lst (Kp.map V.int++[.int v]))=H6 at s6 e6 h1'
  refine ⟨_,rfl,a,_,3,_,rfl,rfl,SqT.of (s6 _ _ ea),rfl,dO.mpr ⟨r,wa,t,k2,p',m,ts,ws,T,Kp++[v],y,rfl,W.same s6,m2,s6 _ _ hw,lw,s6 _ _ et,tm,by lia,e6,by rw[w9];show _+1+_<=_;lia,hy.same s6,λv2 H7 s7 h2 =>?_⟩⟩
  have s67:=s6.trans s7
  have h1':=h1'.same s7
  generalize shw m (ts.map (·.2)) ws (T++[v]) Kp x=X1 at h1' q
  generalize shw m (ts.map (·.2)) ws T (Kp++[v]) y=X2 at h2 q
  obtain ⟨f1,rfl,ef1⟩:=h1'
  obtain ⟨f2,rfl,ef2⟩:=h2
  refine ⟨_,rfl,(by show 0<=xf;decide),λo8 ho8 =>?_⟩
  have g8:=ab ho8 (.lst [])
  refine ⟨f1,o8,_,_,rfl,rfl,SqL.of (g8 _ _ ef1),SqL.of ae,?_⟩
  have no:∀(H9:Hp),aK H7 H9->both X1 X2=none->(0<=xf/\∀p,H9 p=none->Q (.ref p) (upd H9 p (.lst []))):=λH9 s9 e9=>⟨by decide,λo ho=>q _ _ (s67.trans (s9.trans (ab ho _))) (by rw[e9];exact ⟨o,rfl,ae⟩)⟩
  cases X1 with
  | none=>exact .inr ⟨.nil,_,rfl,aS (aS (no _ g8 rfl))⟩
  | some x1 =>
   have l1:(itL (some x1)).length≠([]:List V).length:=by cases x1 <;> simp[itL,MnR.its]
   refine .inl ⟨l1,_,rfl,aT ⟨_,rfl,(by show 0<=xf;decide),λo9 ho9 =>?_⟩⟩
   have g9:=g8.trans (ab ho9 (.lst []))
   refine ⟨f2,o9,_,_,rfl,rfl,SqL.of (g9 _ _ ef2),SqL.of ae,?_⟩
   cases X2 with
   | none=>exact .inr ⟨.nil,_,rfl,aS (no _ g9 rfl)⟩
   | some x2 =>
    have l2:(itL (some x2)).length≠([]:List V).length:=by cases x2 <;> simp[itL,MnR.its]
    refine .inl ⟨l2,_,rfl,aT ?_⟩
    generalize upd (upd H7 o8 (.lst [])) o9 (.lst [])=H9 at g9
    have s9:=s67.trans g9
    have q:∀(v:V) (H':Hp),aK H H'->ShL H' v (some (mF x1 x2))->Q v H':=q
    refine ⟨_,rfl,(by show 1<=xf;decide),λoa hoa =>?_⟩
    have ga:=g9.trans (ab hoa (.lst [.str "never"]))
    refine ⟨f1,oa,_,_,rfl,rfl,SqL.of (ga _ _ ef1),SqL.of ae,?_⟩
    cases x1 with
    | none =>
     refine .inr ⟨.cons (du _) .nil,_,rfl,aS (aS ⟨_,rfl,_,rfl,(by show 2<=xf;decide),λob hob =>?_⟩)⟩
     have gb:=ga.trans (ab hob (.lst [.ref f1,.ref f2]))
     have eb:upd (upd H9 oa (.lst [.str "never"])) ob (.lst [.ref f1,.ref f2]) ob=some (.lst [.ref f1,.ref f2]):=ae
     generalize upd (upd H9 oa (.lst [.str "never"])) ob (.lst [.ref f1,.ref f2])=Hb at gb eb
     refine ⟨_,rfl,(by show 1<=xf;decide),λoc hoc =>?_⟩
     have gc:=gb.trans (ab hoc (.lst [.str "never"]))
     have ec:=(ab hoc (.lst [.str "never"])) _ _ eb
     refine ⟨f1,oc,_,_,rfl,rfl,SqL.of (gc _ _ ef1),SqL.of ae,.inr ⟨.cons (du _) .nil,.inr ⟨true,rfl,ob,_,1,_,rfl,rfl,SqL.of ec,rfl,q _ _ (s67.trans gc) ⟨f2,rfl,?_⟩⟩⟩⟩
     rw[gc _ _ ef2]
     cases x2 <;> rfl
    | some n1 =>
     refine .inl ⟨by simp[itL,MnR.its],_,rfl,aT ⟨_,rfl,(by show 1<=xf;decide),λob hob =>?_⟩⟩
     have gb:=ga.trans (ab hob (.lst [.str "never"]))
     refine ⟨f2,ob,_,_,rfl,rfl,SqL.of (gb _ _ ef2),SqL.of ae,?_⟩
     cases x2 with
     | none =>
      refine .inr ⟨.cons (du _) .nil,_,rfl,aS ⟨_,rfl,_,rfl,(by show 2<=xf;decide),λoc hoc =>?_⟩⟩
      have gc:=gb.trans (ab hoc (.lst [.ref f1,.ref f2]))
      have ec:upd (upd (upd H9 oa (.lst [.str "never"])) ob (.lst [.str "never"])) oc (.lst [.ref f1,.ref f2]) oc=some (.lst [.ref f1,.ref f2]):=ae
      generalize upd (upd (upd H9 oa (.lst [.str "never"])) ob (.lst [.str "never"])) oc (.lst [.ref f1,.ref f2])=Hc at gc ec
      refine ⟨_,rfl,(by show 1<=xf;decide),λod hod =>?_⟩
      have gd:=gc.trans (ab hod (.lst [.str "never"]))
      have ed:=(ab hod (.lst [.str "never"])) _ _ ec
      refine ⟨f1,od,_,_,rfl,rfl,SqL.of (gd _ _ ef1),SqL.of ae,.inl ⟨by simp[itL,MnR.its],.inr ⟨false,rfl,oc,_,0,_,rfl,rfl,SqL.of ed,rfl,q _ _ (s67.trans gd) ⟨f1,rfl,gd _ _ ef1⟩⟩⟩⟩
     | some n2 =>
      refine .inl ⟨by simp[itL,MnR.its],_,rfl,aT ⟨_,rfl,f1,_,1,_,rfl,rfl,SqL.of (gb _ _ ef1),rfl,_,rfl,f2,_,1,_,rfl,rfl,SqL.of (gb _ _ ef2),rfl,_,_,rfl,(by show 2<=xf;decide),λoc hoc=>q _ _ (s67.trans (gb.trans (ab hoc _))) ⟨oc,rfl,?_⟩⟩⟩
      rw[ae]
      unfold mF
      show _=some (HO.lst (itL (some (if decide (n2<n1)=true then some n2 else some n1))))
      by_cases c:n2<n1
      ·rw[decide_eq_true c,if_pos rfl,if_pos c];rfl
      ·rw[decide_eq_false c,if_neg xw,if_neg c];rfl
end
open PySem L2
theorem hZ {α:Type}(f:α -> V)(Z:List α)(lo hi:Option Int):∃Y:List α,bL (Z.map f) lo hi=Y.map f/\Y.length<=Z.length/\∀v∈Y,v∈Z:=by
 refine ⟨(Z.drop (HT.sIx (Z.map f).length 0 lo)).take (HT.sIx (Z.map f).length (Z.map f).length hi-HT.sIx (Z.map f).length 0 lo),?_,?_,λv hv=>zC (zD hv)⟩
 ·unfold bL
  rw[Av,Dr]
 ·rw[yy,y3];lia
theorem wU {K:wY}{a:Addr}{Z:List Int}{k:Nat}{tc:TT}{te:TE}{τ:St}{H:Hp}{Q:VK}(f:Int->Bool)(e:H a=some (.tup (Z.map V.int)))(lz:Z.length<=5000)(hc:∀v∈Z,∀R:Bool->Hp->Prop,R (f v) H->tc (τ.set k (some (.int v))) H R)
  (hs:∀v∈Z,∀R:VK,R (.int v) H->te (τ.set k (some (.int v))) H R) (hd:∀l,H l=none->Q (.ref l) (upd H l (.lst ((Z.filter f).map V.int)))):eS (Itt K a) (dD k) tc te τ Q H:=by
 have lm:(Z.map V.int).length=Z.length:=wW _
 have cut:∀{i:Nat} {v:Int},Z[i]? = some v->(Z.take (i+1)).filter f=(Z.take i).filter f++if f v=true then [v] else []:=λ{i v} ev=>by
  rw[y8,ev,BL]
  congr 1
  show List.filter f [v]=_
  by_cases c:f v=true
  ·rw[if_pos c,AY c];rfl
  ·rw[if_neg c,AZ c];rfl
 refine gP (xs:=Z.map V.int) (λi ys H'=>H'=H/\ys=((Z.take i).filter f).map V.int) ⟨rfl,rfl⟩ (by rw[lm];exact aR lz) (λi ys H' _ h=>by rw[h.1];exact SqT.of e) ?_ ?_
 ·rintro i x ys H' hx _ ⟨rfl,rfl⟩ R1 R0 r1 r0
  obtain ⟨v,ev,rfl⟩:=iw hx
  have vm:=xE ev
  refine hc v vm _ ?_
  cases c:f v with
  | true=>exact aS (hs v vm _ (r1 _ _ ⟨rfl,by rw[cut ev,if_pos c,xq];rfl⟩))
  | false=>exact aT (r0 _ ⟨rfl,by rw[cut ev,if_neg (by rw[c];exact xw),yu]⟩)
 ·rintro ys H' _ ⟨rfl,rfl⟩ l hl
  rw[lm,zo]
  exact hd l hl
theorem sD {n:Nat}{p a:Addr}{H H':Hp}(b:Bu n p H H')(ha:H' a=none)(hp:a≠p):H a=none:=by
 cases h:H a with
 | none=>rfl
 | some o=>rw[b.st _ _ hp h] at ha;cases ha
abbrev RU:=Addr×Addr×List Int×Int
def dj (H:Hp)(u:RU):Prop:=H u.1=some (.tup [.ref u.2.1,.int u.2.2.2])/\H u.2.1=some (.tup (u.2.2.1.map V.int))/\u.2.2.1.length<=100/\u.2.2.1≠[]
theorem dj.same {H H':Hp}{u:RU}(h:dj H u)(s:aK H H'):dj H' u:=⟨s _ _ h.1,s _ _ h.2.1,h.2.2⟩
theorem dj.bu {H H':Hp}{u:RU}{p:Addr}(h:dj H u)(b:Bu 1 p H H')(hp:Pt 1 H p):dj H' u:=⟨b.tup hp h.1,b.tup hp h.2.1,h.2.2⟩
theorem dj.put {H:Hp}{u:RU}{l:Addr}{xs ys:List V}(h:dj H u)(e:H l=some (.lst xs)):dj (upd H l (.lst ys)) u:=⟨by rw[aG (jR h.1 e nofun)];exact h.1,by rw[aG (jR h.2.1 e nofun)];exact h.2.1,h.2.2⟩
abbrev mL:Sp:=λvs H Q _=>∃i:Int,vs=[.int i]/\Q (.bl true) H
@[irreducible] def iL:Sp:=mL
theorem fk {vs:List V}{H:Hp}{Q:VK}{E:XK}:iL vs H Q E↔mL vs H Q E:=by
 delta iL
 exact zt
section
variable  {P:xA}{w:xQ}{K:wY}{mg:Str->Option xb}{base:Heap}{f T:Addr}{fd:yd}
theorem sE:aQ ["found"] ["found"] (aB kX):=⟨rfl,rfl,rfl,by decide +kernel,rfl,by decide +kernel,by decide +kernel⟩
theorem sF (F:Fun K "_law_whole" "_law_whole" kX f fd)(B:Blt mg):bG P w K mg base CX0 1 f fd ["found"] iL:=by
 refine F.ok sE (λvs H Q E h =>?_) (λcdv A outer s H vs Q E hr h =>?_)
 ·obtain ⟨_,rfl,_⟩:=fk.mp h
  rfl
 obtain ⟨i,rfl,q⟩:=fk.mp h
 refine ⟨_,(@ai _ _ _ (@aq _ _ _ _ (mS (aA eU rfl B.b_isinstance dz (@aa _ _ _ _ _ (pv 0) (@aa _ _ _ _ _ (kE (v :=.ty "int") rfl B.b_int r9 rfl) af rfl) rfl)) (qR (uZ (aA eU rfl B.b_isinstance dz (@aa _ _ _ _ _ (pv 0) (@aa _ _ _ _ _ (kE (v :=.ty "bool") rfl B.b_bool uf rfl) af rfl) rfl))))))),?_⟩
 exact ⟨_,rfl,.int i, "int",_,true,rfl,.int i,rfl,_,rfl,aS ⟨_,rfl,.int i, "bool",_,false,rfl,.int i,rfl,_,rfl,q⟩⟩
end
abbrev pE:Sp:=λvs H Q _=>∃(v:V) (x:Option MnR.Rs),vs=[v]/\Shn H v x/\∀(u:V) (H':Hp),aK H H'->ShL H' u x->Q u H'
@[irreducible] def lC:Sp:=pE
theorem dk {vs:List V}{H:Hp}{Q:VK}{E:XK}:lC vs H Q E↔pE vs H Q E:=by
 delta lC
 exact zt
section
variable  {P:xA}{w:xQ}{K:wY}{mg:Str->Option xb}{base:Heap}{f T:Addr}{fd:yd}
theorem uy:aQ ["found"] ["found"] (aB nW):=⟨rfl,rfl,rfl,by decide +kernel,rfl,by decide +kernel,by decide +kernel⟩
theorem uz (F:Fun K "_law_told" "_law_told" nW f fd)(B:Blt mg)(cLWhole:Cal P w K mg base 1 "_law_whole" ["found"] iL):bG P w K mg base CX0 2 f fd ["found"] lC:=by
 refine F.ok uy (λvs H Q E h =>?_) (λcdv A outer s H vs Q E hr h =>?_)
 ·obtain ⟨_,_,rfl,_⟩:=dk.mp h
  rfl
 obtain ⟨v,x,rfl,hx,q⟩:=dk.mp h
 refine ⟨_,(@ah _ _ _ _ _ (@aO _ _ _ _ _ _ _ _ (aj mW (pv 0) eN (ay _)) (@ai _ _ _ (@aq _ _ _ _ (@aI _ _ _ _ af))) ax)
  (@ah _ _ _ _ _ (@aO _ _ _ _ _ _ _ _ (PW.pt (ck (fO (bY (aA eU rfl B.b_isinstance dz (@aa _ _ _ _ _ (pv 0) (@aa _ _ _ _ _ (kE (v :=.ty "tuple") rfl B.b_tuple de rfl) af rfl) rfl)))) (cx (PW.pt (cK (aj bE (aA aX rfl B.b_len cu (@aa _ _ _ _ _ (pv 0) af rfl)) ag (ay _)) (cg (fO (bY (ao cLWhole hr (by decide) rfl (@aa _ _ _ _ _ (@au _ _ _ _ _ _ _ av (pv 0) ag (λ_ _=>rfl)) af rfl)))))))))) (@ai _ _ _ (@aq _ _ _ _ (@aI _ _ _ _ (@aa _ _ _ _ _ aU af rfl)))) ax)
  (@ai _ _ _ (@aq _ _ _ _ (bb cN rfl B.b_list iD (@aa _ _ _ _ _ (pv 0) af rfl)))))),?_⟩
 cases x with
 | none =>
  cases (show v = .non from hx)
  exact ⟨_,rfl,rfl,_,rfl,aS ⟨(by show 0<=xf;decide),λo ho=>q _ _ (ab ho _) ⟨o,rfl,ae⟩⟩⟩
 | some x =>
  obtain ⟨a,rfl,ea⟩:=hx
  refine ⟨_,rfl,rfl,_,rfl,aT ⟨_,rfl,.ref a, "tuple",_,true,rfl,.tup ea,rfl,_,rfl,aT ⟨_,rfl,a,_,rfl,.inr (SqT.of ea),rfl,_,rfl,?_⟩⟩⟩
  cases x with
  | none =>
   exact aT (aT ⟨_,rfl,a,_,rfl,.inr (SqT.of ea),λl hl=>q _ _ (ab hl _) ⟨l,rfl,ae⟩⟩)
  | some n =>
   exact aS ⟨_,rfl,a,_,1,_,rfl,rfl,SqT.of ea,rfl,fk.mpr ⟨n,rfl,_,rfl,aT ⟨_,rfl,a,_,rfl,.inr (SqT.of ea),λl hl=>q _ _ (ab hl _) ⟨l,rfl,ae⟩⟩⟩⟩
end
abbrev mM:Sp:=λvs H Q _=>∃(p wa rl t k:Addr) (m:Nat) (ws T Kp:List Int) (us:List (Addr×List Int)),vs=[.ref p,.ref wa,.ref rl,.ref t,.ref k]/\Pt 1 H p/\H wa=some (.lst (ws.map V.int))/\ws.length=m/\m<=40/\H rl=some (.lst (us.map λu =>.ref u.1))/\Tus H us/\(∀u∈us,Pth m u.2)/\us.length<=4000/\H t=some (.lst (T.map V.int))/\t≠p/\H k=some (.lst (Kp.map V.int))/\k≠p/\∀(l:Addr) (rs:List (List Int×Int)) (H':Hp),Bu 1 p H H'->Rows true H' l rs->rs.length<=5->(∀r∈rs,r.1≠[]/\r.1.length<=100)->Q (.ref l) H'
@[irreducible] def iM:Sp:=mM
theorem cI {vs:List V}{H:Hp}{Q:VK}{E:XK}:iM vs H Q E↔mM vs H Q E:=by
 delta iM
 exact zt
section
variable  {P:xA}{w:xQ}{K:wY}{mg:Str->Option xb}{base:Heap}{f T:Addr}{fd:yd}
theorem cT:aQ ["pot", "weights", "rings", "taken", "kept", "left", "rows", "begin", "ring", "opens", "share", "place"] ["pot", "weights", "rings", "taken", "kept"] (aB nU):=⟨rfl,rfl,rfl,by decide +kernel,rfl,by decide +kernel,by decide +kernel⟩
theorem f6:(["place", "kept"]:List Str).Nodup:=by decide +kernel
theorem fK:(["place", "taken"]:List Str).Nodup:=by decide +kernel
theorem f7:(["place", "left"]:List Str).Nodup:=by decide +kernel
theorem uA (F:Fun K "_law_rows" "_law_rows" nU f fd)(B:Blt mg)(cLTake:Cal P w K mg base 1 "_law_take" ["pot", "many"] cB):bG P w K mg base CX0 2 f fd ["pot", "weights", "rings", "taken", "kept"] iM:=by
 refine F.ok cT (λvs H Q E h =>?_) (λcdv A outer s H vs Q E hr h =>?_)
 ·obtain ⟨_,_,_,_,_,_,_,_,_,_,rfl,_⟩:=cI.mp h
  rfl
 obtain ⟨p,wa,rl,t,k,m,ws,T,Kp,us,rfl,hp,hw,lw,m4,er,tu,pu,lu,et,tp,ek,kp,q⟩:=cI.mp h
 refine ⟨_,(@ah _ _ _ _ _ (@aH _ _ 5 _ _ _ _ cT.nd rfl (Or.inr rfl) (bb cN rfl B.b_list iD (@aa _ _ _ _ _ (pv 1) af rfl)) rfl (by first | exact .inl rfl | exact .inr rfl | assumption))
  (@ah _ _ _ _ _ (@aH _ _ 6 _ _ _ _ cT.nd rfl (Or.inl rfl) (@aI _ _ _ _ af) rfl (by first | exact .inl rfl | exact .inr rfl | assumption))
  (@ah _ _ _ _ _ (@aH _ _ 7 _ _ _ _ cT.nd rfl (Or.inl rfl) (ao cLTake hr (by decide) rfl (@aa _ _ _ _ _ (pv 0) (@aa _ _ _ _ _ (@aE _ _ _ _ _ _ _ _ bh (aA aX rfl B.b_len cu (@aa _ _ _ _ _ (pv 2) af rfl)) ag) af rfl) rfl)) rfl (by first | exact .inl rfl | exact .inr rfl | assumption))
  (@ah _ _ _ _ _ (@cy _ _ _ _ _ _ _ _ yD rfl (@cC _ _ _ _ (@aE _ _ _ _ _ _ _ _ bW (bC cM (pv 2) (bP (pv 7)) bO) (bC cM (pv 2) bO (bP (pv 7))))) (aD (i:=8) cT.nd rfl (Or.inl rfl))
   (@ah _ _ _ _ _ (cz (i:=9) ["place", "kept"] [none,some 4] rfl cT.nd rfl rfl (@cW _ _ _ _ (pv 8)) rfl (λ_ _ _ _ _=>(aD (i:=0) f6 rfl (Or.inl rfl))) (λ_ _ _ _ _=>(iV (aj (fw (K:=K)) (pv 0) (pv 1) rfl))) (λ_ _ _ _ _=>(pv 0)))
   (@ai _ _ _ (@aO _ _ _ _ _ _ _ _ (PW.pt (cK (aj (nL hr) (pv 9) (@aI _ _ _ _ af) (ay _)) (cg (fO (bY (aA (gw rfl) rfl B.b_any k7 (@aa _ _ _ _ _ (bj ["place", "taken"] [none,some 3] rfl (@cW _ _ _ _ (pv 8)) rfl (λ_ _ _ _ _=>(aD (i:=0) fK rfl (Or.inl rfl))) (λ_ _ _ _ _=>bF) (λ_ _ _ _ _=>(bU (eX (K:=K)) (pv 0) (pv 1) rfl))) af rfl))))))) (@ah _ _ _ _ _ (@aH _ _ 10 _ _ _ _ cT.nd rfl (Or.inl rfl) (aA (qu rfl) rfl B.b_min jk (@aa _ _ _ _ _ (bj ["place", "left"] [none,some 5] rfl (@cC _ _ _ _ (pv 9)) rfl (λ_ _ _ _ _=>(aD (i:=0) f7 rfl (Or.inl rfl))) (λ_ _ _ _ _=>bF) (λ_ _ _ _ _=>(@au _ _ _ _ _ _ _ (lS (K:=K)) (pv 1) (pv 0) (λ_ _=>rfl)))) af rfl)) rfl (by first | exact .inl rfl | exact .inr rfl | assumption))
    (@ai _ _ _ (@aO _ _ _ _ _ _ _ _ (PW.pt (cK (aj lM (pv 10) ag (ay _)) (cg (aj gj (aA aX rfl B.b_len cu (@aa _ _ _ _ _ (pv 6) af rfl)) ag (ay _))))) (@ah _ _ _ _ _ (@aH _ _ 10 _ _ _ _ cT.nd rfl (Or.inl rfl) (@aE _ _ _ _ _ _ _ _ cY (pv 10) (@aE _ _ _ _ _ _ _ _ eQ (ao cLTake hr (by decide) rfl (@aa _ _ _ _ _ (pv 0) (@aa _ _ _ _ _ ag af rfl) rfl)) (pv 10))) rfl (by first | exact .inl rfl | exact .inr rfl | assumption))
     (@ah _ _ _ _ _ (kF (rb A0 AN AO gN (pv 6) (@aa _ _ _ _ _ (@aN _ _ _ _ _ (@aa _ _ _ _ _ (pv 8) (@aa _ _ _ _ _ (pv 10) af rfl) rfl)) af rfl)))
     (@ai _ _ _ (@cy _ _ _ _ _ _ _ _ yD rfl (@cC _ _ _ _ (pv 9)) (aD (i:=11) cT.nd rfl (Or.inl rfl))
      (@ai _ _ _ (@iP _ _ _ _ _ _ (@aE _ _ _ _ _ _ _ _ cY (@au _ _ _ _ _ _ _ bD (pv 5) (pv 11) (λ_ _=>rfl)) (pv 10)) (mT (pv 5) (pv 11) set_list) rfl rfl rfl)) (λ_=>rfl))))) ax))) ax))) (λ_=>rfl))
  (@ai _ _ _ (@aq _ _ _ _ (pv 6))))))),?_⟩
 refine ⟨_,rfl,wa,_,rfl,.inl (SqL.of hw),λlf hlf =>?_⟩
 have nlf:=bz hp hlf
 have g1:=ab hlf (.lst (ws.map V.int))
 have b1:=(Bu.refl hp).same g1
 have elf:upd H lf (.lst (ws.map V.int)) lf=some (.lst (ws.map V.int)):=ae
 generalize upd H lf (.lst (ws.map V.int))=H1 at g1 b1 elf
 refine ⟨(by show 0<=xf;decide),λrw hrw =>?_⟩
 have nrw:=bz b1.pot hrw
 have nlr:rw≠lf:=λz=>by rw[z,elf] at hrw;cases hrw
 have hrw0:=sD b1 hrw nrw
 have g2:=ab hrw (.lst [])
 have b2:=b1.same g2
 have elf2:=g2 _ _ elf
 have erw2:upd H1 rw (.lst []) rw=some (.lst []):=ae
 generalize upd H1 rw (.lst [])=H2 at g2 b2 elf2 erw2
 have g12:=g1.trans g2
 have lum:(us.map λu=>V.ref u.1).length=us.length:=wW _
 refine ⟨_,rfl,_,rfl,rl,_,rfl,.inl (SqL.of (g12 _ _ er)),_,_,rfl,rfl,az.mpr ⟨p,(us.length:Int)+1,by rw[lum];rfl,b2.pot,aF (by lia) (by lia),λd H3 d0 d1 b3 =>?_⟩⟩
 have b23:=b2.trans b3
 have nrl:rl≠p:=λz=>by
  obtain ⟨xs,lx,e⟩:=hp
  rw[z,e] at er
  match xs,lx,us,er with
  | [x],_,[u],er=>cases er
 have er3:=b3.st _ _ nrl (g12 _ _ er)
 obtain ⟨A1,eA,lA,mA⟩:=hZ (λu:Addr×List Int=>V.ref u.1) us (some d) none
 obtain ⟨A2,eB,lB,mB⟩:=hZ (λu:Addr×List Int=>V.ref u.1) us none (some d)
 refine ⟨_,rfl,_,rfl,_,rfl,rl,_,rfl,SqL.of er3,λc1 hc1 =>?_⟩
 have g4:=ab hc1 (.lst (bL (us.map λu=>V.ref u.1) (some d) none))
 have ec1:upd H3 c1 (.lst (bL (us.map λu=>V.ref u.1) (some d) none)) c1=some (.lst (A1.map λu=>V.ref u.1)):=by rw[ae,eA]
 generalize upd H3 c1 (.lst (bL (us.map λu=>V.ref u.1) (some d) none))=H4 at g4 ec1
 refine ⟨_,rfl,_,rfl,_,rfl,rl,_,rfl,SqL.of (g4 _ _ er3),λc2 hc2 =>?_⟩
 have g5:=g4.trans (ab hc2 (.lst (bL (us.map λu=>V.ref u.1) none (some d))))
 have ec1':=(ab hc2 (.lst (bL (us.map λu=>V.ref u.1) none (some d)))) _ _ ec1
 have ec2:upd H4 c2 (.lst (bL (us.map λu=>V.ref u.1) none (some d))) c2=some (.lst (A2.map λu=>V.ref u.1)):=by rw[ae,eB]
 generalize upd H4 c2 (.lst (bL (us.map λu=>V.ref u.1) none (some d)))=H5 at g5 ec1' ec2
 refine ⟨c1,c2,_,_,rfl,rfl,SqL.of ec1',SqL.of ec2,by rw[wW,wW];exact ye (B0 lA lB) (ye (by lia:us.length+us.length<=8000) (by decide)),λc3 hc3 =>?_⟩
 have g6:=g5.trans (ab hc3 (.lst ((A1.map λu=>V.ref u.1)++A2.map λu=>V.ref u.1)))
 have ec3:upd H5 c3 (.lst ((A1.map λu=>V.ref u.1)++A2.map λu=>V.ref u.1)) c3=some (.lst ((A1++A2).map λu=>V.ref u.1)):=by rw[ae,xq]
 have b6:=b23.same g6
 have hc30:c3≠p:=bz (b23.same g5).pot hc3
 have elf6:=g6 _ _ (b3.st _ _ nlf elf2)
 have erw6:=g6 _ _ (b3.st _ _ nrw erw2)
 have n3l:c3≠lf:=λz=>by rw[z,g5 _ _ (b3.st _ _ nlf elf2)] at hc3;cases hc3
 have n3r:c3≠rw:=λz=>by rw[z,g5 _ _ (b3.st _ _ nrw erw2)] at hc3;cases hc3
 generalize upd H5 c3 (.lst ((A1.map λu=>V.ref u.1)++A2.map λu=>V.ref u.1))=H6 at g6 ec3 b6 elf6 erw6
 have mem:∀u∈A1++A2,u∈us:=λu hu=>(xx.mp hu).elim (mA u) (mB u)
 let W0:Nat->St->Hp->Prop:=λi σ H'=>((∃c8 c9 c10 c11,σ=[some (.ref p),some (.ref wa),some (.ref rl),some (.ref t),some (.ref k),some (.ref lf),some (.ref rw),some (.int d),c8,c9,c10,c11])/\Bu 1 p H H'/\(∃L:List Int,H' lf=some (.lst (L.map V.int))/\L.length=m)/\∃rus:List RU,H' rw=some (.lst (rus.map λu =>.ref u.1))/\(∀u∈rus,dj H' u)/\rus.length<=5)/\H' c3=some (.lst ((A1++A2).map λu=>V.ref u.1))
 refine ⟨c3,rfl,⟨_,SqL.of ec3⟩,dF (xs:=(A1++A2).map λu =>.ref u.1) W0 ⟨⟨⟨_,_,_,_,rfl⟩,b6,⟨ws,elf6,lw⟩,[],erw6,(λu h=>nomatch h),by decide⟩,ec3⟩ (λi σ H' _ h=>SqL.of h.2) ?_ ?_⟩
 ·rintro i x σ H7 hx ⟨⟨⟨c8,c9,c10,c11,rfl⟩,b7,⟨L,eL,lL⟩,rus,erw7,ru7,lr7⟩,ec7⟩
  obtain ⟨u,eu,rfl⟩:=kq hx
  have um:=mem u (xE eu)
  obtain ⟨zn,nd,rng⟩:=pu u um
  have lz:=(pu u um).len
  have eu7:=b7.tup hp (tu u um)
  refine ⟨_,rfl,u.1,rfl,⟨_,SqT.of eu7⟩,wU (λv => !decide (v∈Kp)) eu7 (by lia) (λv hv R hR =>?_) (λv hv R hR=>⟨_,rfl,hR⟩) λop hop =>?_⟩
  ·refine ⟨_,rfl,_,rfl,k,_,rfl,.inl (SqL.of (b7.st _ _ kp ek)),rfl,aV Kp,_,rfl,?_⟩
   show R (!inV (.int v) (Kp.map V.int)) _
   rw[eG]
   exact hR
  have g8:=ab hop (.lst ((u.2.filter λv => !decide (v∈Kp)).map V.int))
  have b8:=b7.same g8
  have eop:upd H7 op (.lst ((u.2.filter λv => !decide (v∈Kp)).map V.int)) op=some (.lst ((u.2.filter λv => !decide (v∈Kp)).map V.int)):=ae
  have nop:=bz b7.pot hop
  have nol:op≠lf:=λz=>by rw[z,eL] at hop;cases hop
  have nor:op≠rw:=λz=>by rw[z,erw7] at hop;cases hop
  generalize upd H7 op (.lst ((u.2.filter λv => !decide (v∈Kp)).map V.int))=H8 at g8 b8 eop
  have ol:∀v∈u.2.filter (λv => !decide (v∈Kp)),0<=v/\v<m:=λv hv=>rng v (Cw.mp hv).1
  have oll:(u.2.filter λv => !decide (v∈Kp)).length<=u.2.length:=List.length_filter_le _ _
  generalize u.2.filter (λv => !decide (v∈Kp))=O at eop ol oll
  refine ⟨_,rfl,(by show 0<=xf;decide),λo1 ho1 =>?_⟩
  have g9:=g8.trans (ab ho1 (.lst []))
  have b9:=b8.same (ab ho1 (.lst []))
  have eop9:=(ab ho1 (.lst [])) _ _ eop
  have e19:upd H8 o1 (.lst []) o1=some (.lst []):=ae
  generalize upd H8 o1 (.lst [])=H9 at g9 b9 eop9 e19
  have back:∀{H':Hp} {c8 c9 c10 c11:Option V},aK H7 H'->((∃c8' c9' c10' c11',([some (.ref p),some (.ref wa),some (.ref rl),some (.ref t),some (.ref k),some (.ref lf),some (.ref rw),some (.int d),c8,c9,c10,c11]:St)=[some (.ref p),some (.ref wa),some (.ref rl),some (.ref t),some (.ref k),some (.ref lf),some (.ref rw),some (.int d),c8',c9',c10',c11'])/\Bu 1 p H H'/\(∃L:List Int,H' lf=some (.lst (L.map V.int))/\L.length=m)/\∃rus:List RU,H' rw=some (.lst (rus.map λu =>.ref u.1))/\(∀u∈rus,dj H' u)/\rus.length<=5)/\H' c3=some (.lst ((A1++A2).map λu=>V.ref u.1)):=λ{H' c8 c9 c10 c11} s'=>⟨⟨⟨_,_,_,_,rfl⟩,b7.same s',⟨L,s' _ _ eL,lL⟩,rus,s' _ _ erw7,λu hu=>(ru7 u hu).same s',lr7⟩,s' _ _ ec7⟩
  refine ⟨op,o1,_,rfl,rfl,eop9,e19,λz=>⟨_,rfl,aT (aT (back g9))⟩,λz=>⟨_,rfl,aS ?_⟩⟩
  have eu9:=g9 _ _ eu7
  refine ⟨_,rfl,u.1,rfl,⟨_,SqT.of eu9⟩,gC (λv=>decide (v∈T)) V.bl eu9 (by lia) (λv hv R hR =>?_) λl3 hl3 =>?_⟩
  ·refine ⟨_,rfl,_,rfl,t,_,rfl,.inl (SqL.of (g9 _ _ (b7.st _ _ tp et))),rfl,aV T,?_⟩
   show R (V.bl (inV (.int v) (T.map V.int))) _
   rw[eG]
   exact hR
  have g10:=g9.trans (ab hl3 (.lst ((u.2.map λv=>decide (v∈T)).map V.bl)))
  have eop10:=(ab hl3 (.lst ((u.2.map λv=>decide (v∈T)).map V.bl))) _ _ eop9
  refine ⟨l3,_,rfl,SqL.of ae,_,rfl,?_⟩
  generalize upd H9 l3 (.lst ((u.2.map λv=>decide (v∈T)).map V.bl))=H10 at g10 eop10
  cases (u.2.map λv=>decide (v∈T)).any id with
  | true=>exact aT (back g10)
  | false =>
   refine aS ⟨_,rfl,op,rfl,⟨_,SqL.of eop10⟩,uO (λv=>L.getD v.toNat 0) V.int eop10 (by lia) (λv hv R hR =>?_) λl4 hl4 =>?_⟩
   ·obtain ⟨v0,v1⟩:=ol v hv
    have ha:=jL (ws:=L) (n:=v.toNat) (by lia)
    rw[show ((v.toNat:Nat):Int)=v by lia] at ha
    exact ⟨_,rfl,_,rfl,lf,_,v,_,rfl,rfl,SqL.of (g10 _ _ eL),ha,hR⟩
   have On:O≠[]:=λh=>z (by rw[h];rfl)
   have g11:=g10.trans (ab hl4 (.lst ((O.map λv=>L.getD v.toNat 0).map V.int)))
   have eop11:=(ab hl4 (.lst ((O.map λv=>L.getD v.toNat 0).map V.int))) _ _ eop10
   refine ⟨l4,_,rfl,SqL.of ae,λh=>On (C7.mp h),λM _ _ =>?_⟩
   generalize upd H10 l4 (.lst ((O.map λv=>L.getD v.toNat 0).map V.int))=H11 at g11 eop11
   refine ⟨_,rfl,_,_,rfl,rfl,_,rfl,bR (λz1 =>?_) λz1=>aT (back g11)⟩
   have M0:0<M:=of_decide_eq_true z1
   refine ⟨_,rfl,rw,_,rfl,.inl (SqL.of (g11 _ _ erw7)),_,_,rfl,rfl,_,rfl,bR (λz2 =>?_) λz2=>back g11⟩
   have l5:rus.length<5:=by have z2:=of_decide_eq_true z2;rw[wW] at z2;lia
   have b11:=b7.same g11
   refine ⟨_,rfl,_,rfl,az.mpr ⟨p,4,rfl,b11.pot,aF (by decide) (by decide),λd2 H12 e0 e1 b12=>⟨_,rfl,_,_,rfl,rfl,M0,_,_,rfl,rfl,?_⟩⟩⟩
   have b712:=b11.trans b12
   have erw12:=b12.st _ _ nrw (g11 _ _ erw7)
   have eu12:=b12.tup b11.pot (g11 _ _ eu7)
   refine ⟨_,rfl,.inl ⟨rfl,_,SqL.of erw12⟩,_,rfl,_,rfl,(by show 2<=xf;decide),λo2 ho2 =>?_⟩
   have g13:=ab ho2 (.tup [.ref u.1,.int (M-d2%M)])
   have erw13:=g13 _ _ erw12
   have row:dj (upd H12 o2 (.tup [.ref u.1,.int (M-d2%M)])) (o2,u.1,u.2,(M-d2%M)):=⟨ae,g13 _ _ eu12,by show u.2.length<=100;lia,zn⟩
   have n2r:o2≠rw:=λh=>by rw[h,erw12] at ho2;cases ho2
   have b13:=b712.same g13
   have eop13:=g13 _ _ (b12.st _ _ nop eop11)
   have eL13:=g13 _ _ (b12.st _ _ nlf (g11 _ _ eL))
   have ec13:=g13 _ _ (b12.st _ _ hc30 (g11 _ _ ec7))
   have ru13:∀v∈rus,dj (upd H12 o2 (.tup [.ref u.1,.int (M-d2%M)])) v:=λv hv=>(((ru7 v hv).same g11).bu b12 b11.pot).same g13
   generalize upd H12 o2 (.tup [.ref u.1,.int (M-d2%M)])=H13 at g13 erw13 row b13 eop13 eL13 ec13 ru13
   refine ⟨rw,_,_,rfl,rfl,erw13,jm (by rw[wW];lia),?_⟩
   have b14:=b13.fc hrw0 nrw (.lst (rus.map (λu=>V.ref u.1)++[.ref o2]))
   have erw14:upd H13 rw (.lst (rus.map (λu=>V.ref u.1)++[.ref o2])) rw=some (.lst ((rus++[(o2,u.1,u.2,(M-d2%M))]).map λu=>V.ref u.1)):=by rw[ae,xq];rfl
   have ru14:∀v∈rus++[(o2,u.1,u.2,(M-d2%M))],dj (upd H13 rw (.lst (rus.map (λu=>V.ref u.1)++[.ref o2]))) v:=λv hv=>by
    rcases xx.mp hv with h | h
    ·exact (ru13 v h).put erw13
    ·rw[xo.mp h];exact row.put erw13
   have eop14:upd H13 rw (.lst (rus.map (λu=>V.ref u.1)++[.ref o2])) op=some (.lst (O.map V.int)):=by rw[aG nor];exact eop13
   have eL14:upd H13 rw (.lst (rus.map (λu=>V.ref u.1)++[.ref o2])) lf=some (.lst (L.map V.int)):=by rw[aG nlr.symm];exact eL13
   have ec14:upd H13 rw (.lst (rus.map (λu=>V.ref u.1)++[.ref o2])) c3=some (.lst ((A1++A2).map λu=>V.ref u.1)):=by rw[aG n3r];exact ec13
   generalize upd H13 rw (.lst (rus.map (λu=>V.ref u.1)++[.ref o2]))=H14 at b14 erw14 ru14 eop14 eL14 ec14
   have lr14:(rus++[(o2,u.1,u.2,(M-d2%M))]).length<=5:=by rw[w9];show _+1<=_;lia
   generalize rus++[(o2,u.1,u.2,(M-d2%M))]=rus' at erw14 ru14 lr14
   let W1:Nat->St->Hp->Prop:=λj σ H'=>(((∃c8 c9 c11,σ=[some (.ref p),some (.ref wa),some (.ref rl),some (.ref t),some (.ref k),some (.ref lf),some (.ref rw),some (.int d),c8,c9,some (.int (M-d2%M)),c11])/\Bu 1 p H H'/\(∃L:List Int,H' lf=some (.lst (L.map V.int))/\L.length=m)/\∃rus:List RU,H' rw=some (.lst (rus.map λu =>.ref u.1))/\(∀u∈rus,dj H' u)/\rus.length<=5)/\H' c3=some (.lst ((A1++A2).map λu=>V.ref u.1)))/\H' op=some (.lst (O.map V.int))
   refine ⟨_,rfl,op,rfl,⟨_,SqL.of eop14⟩,dF (xs:=O.map V.int) W1 ⟨⟨⟨⟨_,_,_,rfl⟩,b14,⟨L,eL14,lL⟩,rus',erw14,ru14,lr14⟩,ec14⟩,eop14⟩ (λj σ H' _ h=>SqL.of h.2) ?_ ?_⟩
   ·rintro j x σ H15 hx ⟨⟨⟨⟨c9,c11,c13,rfl⟩,b15,⟨L2,eL2,lL2⟩,rus2,erw15,ru15,lr15⟩,ec15⟩,eop15⟩
    obtain ⟨v,ev,rfl⟩:=iw hx
    obtain ⟨v0,v1⟩:=ol v (xE ev)
    obtain ⟨n,rfl⟩:∃n:Nat,v=n:=⟨v.toNat,by lia⟩
    have hlf0:H lf=none:=hlf
    refine ⟨_,rfl,_,rfl,lf,_,(n:Int),_,rfl,rfl,SqL.of eL2,jL (by lia),_,rfl,_,_,rfl,rfl,_,rfl,_,rfl,lf,_,(n:Int),n,rfl,rfl,eL2,(by unfold ixN;rw[if_pos (by lia),if_pos (by rw[wW];lia)];rfl),⟨⟨⟨⟨_,_,_,rfl⟩,b15.fc hlf0 nlf _,⟨L2.set n (L2.getD n 0-(M-d2%M)),by rw[ae,DM],by rw[Bq];exact lL2⟩,rus2,by rw[aG nlr];exact erw15,λw hw=>(ru15 w hw).put eL2,lr15⟩,by rw[aG n3l];exact ec15⟩,by rw[aG nol];exact eop15⟩⟩
   ·rintro σ H15 ⟨⟨⟨⟨c9,c11,c13,rfl⟩,b15,L15,rus2,erw15,ru15,lr15⟩,ec15⟩,eop15⟩
    exact ⟨⟨⟨_,_,_,_,rfl⟩,b15,L15,rus2,erw15,ru15,lr15⟩,ec15⟩
 ·rintro σ H7 ⟨⟨⟨c8,c9,c10,c11,rfl⟩,b7,⟨L,eL,lL⟩,rus,erw7,ru7,lr7⟩,ec7⟩
  refine ⟨_,rfl,q rw _ H7 b7 ⟨rus,erw7,λu hu=>⟨(ru7 u hu).1,(ru7 u hu).2.1,ye (ru7 u hu).2.2.1 (by decide)⟩,rfl,by lia⟩ (by rw[wW];exact lr7) λr hr =>?_⟩
  obtain ⟨u,hu,rfl⟩:=yG.mp hr
  exact ⟨(ru7 u hu).2.2.2,(ru7 u hu).2.2.1⟩
end
open PySem L2
def qK:Tr->Prop
 | .ring Z=>Z≠[]/\Z.length<=100
 | .rows rs=>rs.length<=50/\∀r∈rs,r.1≠[]/\r.1.length<=100
 | .part _ a b=>qK a/\qK b
theorem jw {H:Hp}{p l:Addr}(hp:Pt 1 H p){α:Type}{f:α -> Addr}{us:List α}(e:H l=some (.lst (us.map λu=>V.ref (f u)))):l≠p:=λz=>by
 obtain ⟨xs,lx,ep⟩:=hp
 rw[z,ep] at e
 match xs,lx,us,e with
 | [x],_,[u],e=>cases e
theorem Rows.bu {c:Bool}{H H':Hp}{p l:Addr}{rs:List (List Int×Int)}(h:Rows c H l rs)(b:Bu 1 p H H')(hp:Pt 1 H p):Rows c H' l rs:=by
 obtain ⟨us,h1,h2,h3,h4⟩:=h
 refine ⟨us,?_,λu hu=>⟨b.tup hp (h2 u hu).1,b.tup hp (h2 u hu).2.1,(h2 u hu).2.2⟩,h3,h4⟩
 cases c with
 | true=>exact b.st _ _ (jw hp h1) h1
 | false=>exact b.tup hp h1
theorem bJ.bu {c:Bool}{H H':Hp}{p:Addr}(b:Bu 1 p H H')(hp:Pt 1 H p):∀{t:Tr} {n:Nat} {a:Addr},bJ c H n a t->bJ c H' n a t
 | .ring Z,n,a,h=>by
  obtain ⟨q,h1,h2,h3⟩:=h
  exact ⟨q,b.tup hp h1,b.tup hp h2,h3⟩
 | .rows rs,n,a,h=>by
  obtain ⟨q,h1,h2⟩:=h
  exact ⟨q,b.tup hp h1,h2.bu b hp⟩
 | .part v x y,n,a,h=>by
  obtain ⟨k,q,q',e,h1,h2,h3⟩:=h
  exact ⟨k,q,q',e,b.tup hp h1,bJ.bu b hp h2,bJ.bu b hp h3⟩
theorem Wb.bu {H H':Hp}{p r:Addr}{m:Int}{ts:List (Addr×List Int)}(W:Wb H r m ts)(b:Bu 1 p H H')(hp:Pt 1 H p):Wb H' r m ts:=W.tp λc u h=>b.tup hp h
@[irreducible] def f9:Nat->Sp
 | 0=>λ_ _ _ _=>False
 | n+1=>λvs H Q _=>∃(p r wa rl t k:Addr) (m rm:Nat) (ts:List (Addr×List Int)) (ws T Kp:List Int) (us:List (Addr×List Int)),vs=[.ref p,.ref r,.ref wa,.ref rl,.ref t,.ref k,.int rm]/\Pt 1 H p/\Wb H r m ts/\m<=40/\H wa=some (.lst (ws.map V.int))/\wa≠p/\ws.length=m/\H rl=some (.lst (us.map λu =>.ref u.1))/\Tus H us/\(∀u∈us,Pth m u.2)/\us.length<=4000/\H t=some (.lst (T.map V.int))/\t≠p/\T.length+n<=200/\H k=some (.lst (Kp.map V.int))/\k≠p/\Kp.length+n<=200/\rm<=n/\∀(a:Addr) (tr:Tr) (H':Hp),Bu 1 p H H'->bJ true H' rm a tr->qK tr->Q (.ref a) H'
theorem cj {n:Nat}{vs:List V}{H:Hp}{Q:VK}{E:XK}:f9 (n+1) vs H Q E↔∃(p r wa rl t k:Addr) (m rm:Nat) (ts:List (Addr×List Int)) (ws T Kp:List Int) (us:List (Addr×List Int)),vs=[.ref p,.ref r,.ref wa,.ref rl,.ref t,.ref k,.int rm]/\Pt 1 H p/\Wb H r m ts/\m<=40/\H wa=some (.lst (ws.map V.int))/\wa≠p/\ws.length=m/\H rl=some (.lst (us.map λu =>.ref u.1))/\Tus H us/\(∀u∈us,Pth m u.2)/\us.length<=4000/\H t=some (.lst (T.map V.int))/\t≠p/\T.length+n<=200/\H k=some (.lst (Kp.map V.int))/\k≠p/\Kp.length+n<=200/\rm<=n/\∀(a:Addr) (tr:Tr) (H':Hp),Bu 1 p H H'->bJ true H' rm a tr->qK tr->Q (.ref a) H':=by
 unfold f9
 exact zt
theorem qL {vs:List V}{H:Hp}{Q:VK}{E:XK}:¬ f9 0 vs H Q E:=by
 unfold f9
 exact id
section
variable  {P:xA}{w:xQ}{K:wY}{mg:Str->Option xb}{base:Heap}{f T:Addr}{fd:yd}
theorem gF:aQ ["pot", "web", "weights", "rings", "taken", "kept", "room", "shut", "opens", "place", "first"] ["pot", "web", "weights", "rings", "taken", "kept", "room"] (aB nV):=⟨rfl,rfl,rfl,by decide +kernel,rfl,by decide +kernel,by decide +kernel⟩
theorem gG:(["ring", "kept"]:List Str).Nodup:=by decide +kernel
theorem gf:(["place", "kept"]:List Str).Nodup:=by decide +kernel
theorem dC:(["place", "taken", "kept"]:List Str).Nodup:=by decide +kernel
theorem uB (F:Fun K "_law_good" "_law_good" nV f fd)(B:Blt mg)(n:Nat)(cLGood:Cal P w K mg base (2+n) "_law_good" ["pot", "web", "weights", "rings", "taken", "kept", "room"] (f9 n))(cLTake:Cal P w K mg base 1 "_law_take" ["pot", "many"] cB)(cLRows:Cal P w K mg base 2 "_law_rows" ["pot", "weights", "rings", "taken", "kept"] iM):bG P w K mg base CX0 (2+n+1) f fd ["pot", "web", "weights", "rings", "taken", "kept", "room"] (f9 (n+1)):=by
 refine F.ok gF (λvs H Q E h =>?_) (λcdv A outer s H vs Q E hr h =>?_)
 ·obtain ⟨_,_,_,_,_,_,_,_,_,_,_,_,_,rfl,_⟩:=cj.mp h
  rfl
 obtain ⟨p,r,wa,rl,t,k,m,rm,ts,ws,T,Kp,us,rfl,hp,W,m4,hw,wap,lw,er,tu,pu,lu,et,tp,lt,ek,kp,lk,rn,q⟩:=cj.mp h
 refine ⟨_,(@ah _ _ _ _ _ (cz (i:=7) ["ring", "kept"] [none,some 5] rfl gF.nd rfl rfl (@cC _ _ _ _ (pv 3)) rfl (λ_ _ _ _ _=>(aD (i:=0) gG rfl (Or.inl rfl))) (λ_ _ _ _ _=>(iV (bY (aA (qq (K:=K) rfl) rfl B.b_all hJ (@aa _ _ _ _ _ (bj ["place", "kept"] [none,some 1] rfl (tZ (K:=K) (pv 0)) rfl (λ_ _ _ _ _=>(aD (i:=0) gf rfl (Or.inl rfl))) (λ_ _ _ _ _=>bF) (λ_ _ _ _ _=>(bU (eX (K:=K)) (pv 0) (pv 1) rfl))) af rfl))))) (λ_ _ _ _ _=>(pv 0)))
  (@ah _ _ _ _ _ (cz (i:=8) ["place", "taken", "kept"] [none,some 4,some 5] rfl gF.nd rfl rfl (bA rfl B.b_range (@aa _ _ _ _ _ (@au _ _ _ _ _ _ _ av (pv 1) ag (λ_ _=>rfl)) af rfl)) rfl (λ_ _ _ _ _=>(aD (i:=0) dC rfl (Or.inl rfl))) (λ_ _ _ _ _=>(iV (PW.pt (cK (aj (fw (K:=K)) (pv 0) (pv 1) rfl) (cg (aj (fw (K:=K)) (pv 0) (pv 2) rfl)))))) (λ_ _ _ _ _=>(pv 0)))
  (@ah _ _ _ _ _ (@aO _ _ _ _ _ _ _ _ (PW.pt (cK (aj (nL hr) (pv 7) (@aI _ _ _ _ af) (ay _)) (cg (PW.pt (ck (aj bE (pv 6) ag (ay _)) (ck (aj (cR hr) (pv 8) (@aI _ _ _ _ af) (ay _)) (cx (aj lM (ao cLTake hr (by lia) rfl (@aa _ _ _ _ _ (pv 0) (@aa _ _ _ _ _ ag af rfl) rfl)) ag (ay _))))))))) (@ai _ _ _ (@aq _ _ _ _ (@aN _ _ _ _ _ (@aa _ _ _ _ _ aU (@aa _ _ _ _ _ (@au _ _ _ _ _ _ _ bD (pv 7) (ao cLTake hr (by lia) rfl (@aa _ _ _ _ _ (pv 0) (@aa _ _ _ _ _ (aA aX rfl B.b_len cu (@aa _ _ _ _ _ (pv 7) af rfl)) af rfl) rfl)) (λ_ _=>rfl)) af rfl) rfl)))) ax)
  (@ah _ _ _ _ _ (@aO _ _ _ _ _ _ _ _ (PW.pt (ck (aj bE (pv 6) ag (ay _)) (ck (aj (cR hr) (pv 8) (@aI _ _ _ _ af) (ay _)) (cx (PW.pt (cK (aj (cR hr) (pv 7) (@aI _ _ _ _ af) (ay _)) (cg (aj bE (ao cLTake hr (by lia) rfl (@aa _ _ _ _ _ (pv 0) (@aa _ _ _ _ _ ag af rfl) rfl)) ag (ay _))))))))) (@ai _ _ _ (@aq _ _ _ _ (@aN _ _ _ _ _ (@aa _ _ _ _ _ aU (@aa _ _ _ _ _ (ao cLRows hr (by lia) rfl (@aa _ _ _ _ _ (pv 0) (@aa _ _ _ _ _ (pv 2) (@aa _ _ _ _ _ (pv 3) (@aa _ _ _ _ _ (pv 4) (@aa _ _ _ _ _ (pv 5) af rfl) rfl) rfl) rfl) rfl)) af rfl) rfl)))) ax)
  (@ah _ _ _ _ _ (@aH _ _ 9 _ _ _ _ gF.nd rfl (Or.inl rfl) (@au _ _ _ _ _ _ _ bD (pv 8) (ao cLTake hr (by lia) rfl (@aa _ _ _ _ _ (pv 0) (@aa _ _ _ _ _ (aA aX rfl B.b_len cu (@aa _ _ _ _ _ (pv 8) af rfl)) af rfl) rfl)) (λ_ _=>rfl)) rfl (by first | exact .inl rfl | exact .inr rfl | assumption))
  (@ah _ _ _ _ _ (@aH _ _ 10 _ _ _ _ gF.nd rfl (Or.inl rfl) (ao cLGood hr (xg _) rfl (@aa _ _ _ _ _ (pv 0) (@aa _ _ _ _ _ (pv 1) (@aa _ _ _ _ _ (pv 2) (@aa _ _ _ _ _ (pv 3) (@aa _ _ _ _ _ (@aE _ _ _ _ _ _ _ _ bW (pv 4) (@aI _ _ _ _ (@aa _ _ _ _ _ (pv 9) af rfl))) (@aa _ _ _ _ _ (pv 5) (@aa _ _ _ _ _ (@aE _ _ _ _ _ _ _ _ cY (pv 6) ag) af rfl) rfl) rfl) rfl) rfl) rfl) rfl)) rfl (by first | exact .inl rfl | exact .inr rfl | assumption))
  (@ai _ _ _ (@aq _ _ _ _ (@aN _ _ _ _ _ (@aa _ _ _ _ _ aU (@aa _ _ _ _ _ (pv 9) (@aa _ _ _ _ _ (pv 10) (@aa _ _ _ _ _ (ao cLGood hr (xg _) rfl (@aa _ _ _ _ _ (pv 0) (@aa _ _ _ _ _ (pv 1) (@aa _ _ _ _ _ (pv 2) (@aa _ _ _ _ _ (pv 3) (@aa _ _ _ _ _ (pv 4) (@aa _ _ _ _ _ (@aE _ _ _ _ _ _ _ _ bW (pv 5) (@aI _ _ _ _ (@aa _ _ _ _ _ (pv 9) af rfl))) (@aa _ _ _ _ _ (@aE _ _ _ _ _ _ _ _ cY (pv 6) ag) af rfl) rfl) rfl) rfl) rfl) rfl) rfl)) af rfl) rfl) rfl) rfl)))))))))),?_⟩
 obtain ⟨tt,e1,e2⟩:=W.at'
 have nrl:=jw hp er
 have b0:=Bu.refl hp
 let W0:Nat->List V->Hp->Prop:=λi ys H'=>aK H H'/\∃A:List (Addr×List Int),ys=A.map (λu =>.ref u.1)/\(∀u∈A,u∈us)/\A.length<=i
 refine ⟨_,rfl,rl,rfl,⟨_,SqL.of er⟩,dR (xs:=us.map λu =>.ref u.1) W0 ⟨aK.refl _,[],rfl,(λu h=>nomatch h),xg _⟩ (by rw[wW];exact aR (by lia)) (λi ys H' _ h=>SqL.of (h.1 _ _ er)) ?_ ?_⟩
 ·rintro i x ys H1 hx _ ⟨s1,A,rfl,mA,lA⟩ R1 R0 r1 r0
  obtain ⟨u,eu,rfl⟩:=kq hx
  have um:=xE eu
  have lz:=(pu u um).len
  have eu1:=s1 _ _ (tu u um)
  refine ⟨_,rfl,u.1,rfl,⟨_,SqT.of eu1⟩,gC (λv=>decide (v∈Kp)) V.bl eu1 (by lia) (λv hv R hR =>?_) λl2 hl2 =>?_⟩
  ·refine ⟨_,rfl,_,rfl,k,_,rfl,.inl (SqL.of (s1 _ _ ek)),rfl,aV Kp,?_⟩
   show R (V.bl (inV (.int v) (Kp.map V.int))) _
   rw[eG]
   exact hR
  have s2:=s1.trans (ab hl2 (.lst ((u.2.map λv=>decide (v∈Kp)).map V.bl)))
  refine ⟨l2,_,rfl,SqL.of ae,_,rfl,bR (λz =>?_) λz=>r0 _ ⟨s2,A,rfl,mA,by lia⟩⟩
  refine ⟨_,rfl,r1 _ _ ⟨s2,A++[u],by rw[xq];rfl,λw hw =>?_,by rw[w9];show _+1<=_;lia⟩⟩
  rcases xx.mp hw with h | h
  ·exact mA w h
  ·rw[xo.mp h];exact um
 rintro ys H1 _ ⟨s1,A,rfl,mA,lA⟩ sa hsa
 rw[wW] at lA
 have g2:=s1.trans (ab hsa (.lst (A.map λu=>V.ref u.1)))
 have es:upd H1 sa (.lst (A.map λu=>V.ref u.1)) sa=some (.lst (A.map λu=>V.ref u.1)):=ae
 generalize upd H1 sa (.lst (A.map λu=>V.ref u.1))=H2 at g2 es
 refine ⟨_,rfl,r,_,0,_,rfl,rfl,SqT.of (g2 _ _ e1),rfl,(m:Int),rfl,by lia,by lia,bH (λi ys H'=>H'=H2/\∃O:List Int,ys=O.map V.int/\O.length<=i) ⟨rfl,[],rfl,xg _⟩ (aR (by lia)) ?_ ?_⟩
 ·rintro i ys H3 hi _ ⟨rfl,O,rfl,lO⟩ R1 R0 r1 r0
  refine ⟨_,rfl,_,rfl,t,_,rfl,.inl (SqL.of (g2 _ _ et)),rfl,aV T,_,rfl,?_⟩
  refine bR (λz=>⟨_,rfl,_,rfl,k,_,rfl,.inl (SqL.of (g2 _ _ ek)),rfl,aV Kp,_,rfl,bR (λz'=>⟨_,rfl,r1 _ _ ⟨rfl,O++[0+(i:Int)],by rw[xq];rfl,by rw[w9];show _+1<=_;lia⟩⟩) λz'=>r0 _ ⟨rfl,O,rfl,by lia⟩⟩) λz=>aT (r0 _ ⟨rfl,O,rfl,by lia⟩)
 rintro ys H3 _ ⟨rfl,O,rfl,lO⟩ oa hoa
 have g4:=g2.trans (ab hoa (.lst (O.map V.int)))
 have es4:=(ab hoa (.lst (O.map V.int))) _ _ es
 have eo4:upd H3 oa (.lst (O.map V.int)) oa=some (.lst (O.map V.int)):=ae
 have b4:=b0.same g4
 have nsa:sa≠p:=bz (b0.same s1).pot hsa
 have noa:oa≠p:=bz (b0.same g2).pot hoa
 generalize upd H3 oa (.lst (O.map V.int))=H4 at g4 es4 eo4 b4
 have lOm:∀{z:Addr},(O.map V.int).length≠([]:List V).length->0<O.length:=λ{z} h=>by rw[wW] at h;exact Dp h
 refine ⟨_,rfl,(by show 0<=xf;decide),λz1 hz1 =>?_⟩
 have b5:=b4.same (ab hz1 (.lst []))
 have es5:=(ab hz1 (.lst [])) _ _ es4
 have eo5:=(ab hz1 (.lst [])) _ _ eo4
 have ez5:upd H4 z1 (.lst []) z1=some (.lst []):=ae
 generalize upd H4 z1 (.lst [])=H5 at b5 es5 eo5 ez5
 refine ⟨sa,z1,_,rfl,rfl,es5,ez5,λhA =>?_,λhA =>?_⟩
 ·-- no shut ring
  refine ⟨_,rfl,aT (aT ?_)⟩
  refine ⟨_,rfl,rfl,_,rfl,bR (λz=>aS ?_) λz =>?_⟩
  exact ⟨_,rfl,_,rfl,_,rfl,_,rfl,_,rfl,cI.mpr ⟨p,wa,rl,t,k,m,ws,T,Kp,us,rfl,b5.pot,b5.st _ _ wap hw,lw,m4,b5.st _ _ nrl er,tu.bu b5 hp,pu,lu,b5.st _ _ tp et,tp,b5.st _ _ kp ek,kp,λl rs Hr br R lrs rne=>⟨(by show 2<=xf;decide),λo ho=>q o (.rows rs) _ ((b5.trans br).same (ab ho _)) ⟨l,ae,R.same (ab ho _)⟩ ⟨by lia,rne⟩⟩⟩⟩
  have rm0:rm≠0:=λh=>z (decide_eq_true (by rw[h];rfl))
  refine ⟨_,rfl,(by show 0<=xf;decide),λz2 hz2 =>?_⟩
  have b6:=b5.same (ab hz2 (.lst []))
  have es6:=(ab hz2 (.lst [])) _ _ es5
  have eo6:=(ab hz2 (.lst [])) _ _ eo5
  refine ⟨oa,z2,_,_,rfl,rfl,SqL.of eo6,SqL.of ae,?_⟩
  generalize upd H5 z2 (.lst [])=H6 at b6 es6 eo6
  by_cases On:O=[]
  ·refine .inr ⟨by rw[On];exact .nil,_,rfl,aS (aS ?_)⟩
   exact ⟨_,rfl,_,rfl,_,rfl,_,rfl,_,rfl,cI.mpr ⟨p,wa,rl,t,k,m,ws,T,Kp,us,rfl,b6.pot,b6.st _ _ wap hw,lw,m4,b6.st _ _ nrl er,tu.bu b6 hp,pu,lu,b6.st _ _ tp et,tp,b6.st _ _ kp ek,kp,λl rs Hr br R lrs rne=>⟨(by show 2<=xf;decide),λo ho=>q o (.rows rs) _ ((b6.trans br).same (ab ho _)) ⟨l,ae,R.same (ab ho _)⟩ ⟨by lia,rne⟩⟩⟩⟩
  have Ol:0<O.length:=yK.mpr On
  refine .inl ⟨by rw[wW];exact zO Ol,_,rfl,aT ?_⟩
  refine ⟨_,rfl,(by show 0<=xf;decide),λz3 hz3 =>?_⟩
  have b7:=b6.same (ab hz3 (.lst []))
  have es7:=(ab hz3 (.lst [])) _ _ es6
  have eo7:=(ab hz3 (.lst [])) _ _ eo6
  refine ⟨sa,z3,_,_,rfl,rfl,SqL.of es7,SqL.of ae,.inr ⟨by rw[hA];exact .nil,_,rfl,aS ?_⟩⟩
  generalize upd H6 z3 (.lst [])=H7 at b7 es7 eo7
  refine ⟨_,rfl,az.mpr ⟨p,4,rfl,b7.pot,aF (by decide) (by decide),λd4 H8 f0 f1 b8=>⟨rfl,_,rfl,bR (λz =>?_) λz =>?_⟩⟩⟩
  ·have b9:=b7.trans b8
   exact ⟨_,rfl,_,rfl,_,rfl,_,rfl,_,rfl,cI.mpr ⟨p,wa,rl,t,k,m,ws,T,Kp,us,rfl,b9.pot,b9.st _ _ wap hw,lw,m4,b9.st _ _ nrl er,tu.bu b9 hp,pu,lu,b9.st _ _ tp et,tp,b9.st _ _ kp ek,kp,λl rs Hr br R lrs rne=>⟨(by show 2<=xf;decide),λo ho=>q o (.rows rs) _ ((b9.trans br).same (ab ho _)) ⟨l,ae,R.same (ab ho _)⟩ ⟨by lia,rne⟩⟩⟩⟩
  ·have b9:=b7.trans b8
   have eo9:=b8.st _ _ noa eo7
   obtain ⟨n',rfl⟩:∃n',n=n'+1:=⟨n-1,by lia⟩
   obtain ⟨rm',rfl⟩:∃rm',rm=rm'+1:=⟨rm-1,by lia⟩
   refine ⟨_,rfl,_,rfl,_,rfl,oa,_,rfl,.inl (SqL.of eo9),az.mpr ⟨p,(O.length:Int),by rw[wW];rfl,b9.pot,aF (by lia) (by lia),λdp Hp1 p0 p1 bp =>?_⟩⟩
   obtain ⟨v,vm,hat⟩:=rY (xs:=O) p0 p1
   have bp':=b9.trans bp
   refine ⟨oa,_,dp,_,rfl,rfl,SqL.of (bp.st _ _ noa eo9),hat,?_⟩
   refine ⟨_,rfl,_,rfl,_,rfl,_,rfl,_,rfl,_,rfl,(by show 1<=xf;decide),λo ho =>?_⟩
   have b2:=bp'.same (ab ho (.lst [.int v]))
   refine ⟨t,o,_,_,rfl,rfl,SqL.of (b2.st _ _ tp et),SqL.of ae,aR (by rw[wW];show _+1<=_;lia),λt2 ht2 =>?_⟩
   have nt2:=bz b2.pot ht2
   have b3:=b2.same (ab ht2 (.lst (T.map V.int++[.int v])))
   have e3:upd (upd Hp1 o (.lst [.int v])) t2 (.lst (T.map V.int++[.int v])) t2=some (.lst ((T++[v]).map V.int)):=by rw[ae,xq];rfl
   generalize upd (upd Hp1 o (.lst [.int v])) t2 (.lst (T.map V.int++[.int v]))=H3 at b3 e3
   refine ⟨_,rfl,_,rfl,_,_,rfl,rfl,cj.mpr ⟨p,r,wa,rl,t2,k,m,rm',ts,ws,T++[v],Kp,us,by show [_,_,_,_,_,_,V.int (((rm'+1:Nat):Int)-1)]=_;rw[show ((rm'+1:Nat):Int)-1=(rm':Int) by lia],b3.pot,W.bu b3 hp,m4,b3.st _ _ wap hw,wap,lw,b3.st _ _ nrl er,tu.bu b3 hp,pu,lu,e3,nt2,by rw[w9];show _+1+_<=_;lia,b3.st _ _ kp ek,kp,by lia,by lia,λa1 tr1 H4 b4 i1 ne1 =>?_⟩⟩
   have b34:=b3.trans b4
   refine ⟨_,rfl,_,rfl,_,rfl,_,rfl,_,rfl,_,rfl,_,rfl,_,rfl,_,rfl,(by show 1<=xf;decide),λo5 ho5 =>?_⟩
   have b5:=b34.same (ab ho5 (.lst [.int v]))
   have i5:=i1.same (ab ho5 (.lst [.int v]))
   refine ⟨k,o5,_,_,rfl,rfl,SqL.of (b5.st _ _ kp ek),SqL.of ae,aR (by rw[wW];show _+1<=_;lia),λk2 hk2 =>?_⟩
   have nk2:=bz b5.pot hk2
   have b6:=b5.same (ab hk2 (.lst (Kp.map V.int++[.int v])))
   have i6:=i5.same (ab hk2 (.lst (Kp.map V.int++[.int v])))
   have e6:upd (upd H4 o5 (.lst [.int v])) k2 (.lst (Kp.map V.int++[.int v])) k2=some (.lst ((Kp++[v]).map V.int)):=by rw[ae,xq];rfl
   generalize upd (upd H4 o5 (.lst [.int v])) k2 (.lst (Kp.map V.int++[.int v]))=H6 at b6 e6 i6
   refine ⟨_,rfl,_,_,rfl,rfl,cj.mpr ⟨p,r,wa,rl,t,k2,m,rm',ts,ws,T,Kp++[v],us,by show [_,_,_,_,_,_,V.int (((rm'+1:Nat):Int)-1)]=_;rw[show ((rm'+1:Nat):Int)-1=(rm':Int) by lia],b6.pot,W.bu b6 hp,m4,b6.st _ _ wap hw,wap,lw,b6.st _ _ nrl er,tu.bu b6 hp,pu,lu,b6.st _ _ tp et,tp,by lia,e6,nk2,by rw[w9];show _+1+_<=_;lia,by lia,λa2 tr2 H7 b7 i7 ne2 =>?_⟩⟩
   exact ⟨(by show 4<=xf;decide),λo8 ho8=>q o8 (.part v tr1 tr2) _ ((b6.trans b7).same (ab ho8 _)) ⟨rm',a1,a2,rfl,ae,(i6.bu b7 b6.pot).same (ab ho8 _),i7.same (ab ho8 _)⟩ ⟨ne1,ne2⟩⟩
 ·have Al:0<A.length:=yK.mpr λh=>hA (by rw[h];rfl)
  refine ⟨_,rfl,aS ?_⟩
  refine ⟨_,rfl,rfl,_,rfl,bR (λz=>aS ?_) λz =>?_⟩
  refine ⟨_,rfl,_,rfl,_,rfl,sa,_,rfl,.inl (SqL.of es5),az.mpr ⟨p,(A.length:Int),by rw[wW];rfl,b5.pot,aF (by lia) (by lia),λdr Hr r0 r1 br =>?_⟩⟩
  obtain ⟨u,um,hat⟩:=iC (g:=λu:Addr×List Int=>u.1) (ts:=A) r0 r1
  have br':=b5.trans br
  refine ⟨sa,_,dr,_,rfl,rfl,SqL.of (br.st _ _ nsa es5),hat,(by show 2<=xf;decide),λo ho=>q o (.ring u.2) _ (br'.same (ab ho _)) ⟨u.1,ae,(ab ho _) _ _ (br'.tup hp (tu u (mA u um))),?_⟩ ⟨(pu u (mA u um)).1,by have:=(pu u (mA u um)).len;lia⟩⟩
  have:=(pu u (mA u um)).len
  lia
  have rm0:rm≠0:=λh=>z (decide_eq_true (by rw[h];rfl))
  refine ⟨_,rfl,(by show 0<=xf;decide),λz2 hz2 =>?_⟩
  have b6:=b5.same (ab hz2 (.lst []))
  have es6:=(ab hz2 (.lst [])) _ _ es5
  have eo6:=(ab hz2 (.lst [])) _ _ eo5
  refine ⟨oa,z2,_,_,rfl,rfl,SqL.of eo6,SqL.of ae,?_⟩
  generalize upd H5 z2 (.lst [])=H6 at b6 es6 eo6
  by_cases On:O=[]
  ·refine .inr ⟨by rw[On];exact .nil,_,rfl,aS (aS ?_)⟩
   refine ⟨_,rfl,_,rfl,_,rfl,sa,_,rfl,.inl (SqL.of es6),az.mpr ⟨p,(A.length:Int),by rw[wW];rfl,b6.pot,aF (by lia) (by lia),λdr Hr r0 r1 br =>?_⟩⟩
   obtain ⟨u,um,hat⟩:=iC (g:=λu:Addr×List Int=>u.1) (ts:=A) r0 r1
   have br':=b6.trans br
   refine ⟨sa,_,dr,_,rfl,rfl,SqL.of (br.st _ _ nsa es6),hat,(by show 2<=xf;decide),λo ho=>q o (.ring u.2) _ (br'.same (ab ho _)) ⟨u.1,ae,(ab ho _) _ _ (br'.tup hp (tu u (mA u um))),?_⟩ ⟨(pu u (mA u um)).1,by have:=(pu u (mA u um)).len;lia⟩⟩
   have:=(pu u (mA u um)).len
   lia
  have Ol:0<O.length:=yK.mpr On
  refine .inl ⟨by rw[wW];exact zO Ol,_,rfl,aT ?_⟩
  refine ⟨_,rfl,az.mpr ⟨p,3,rfl,b6.pot,aF (by decide) (by decide),λd4 H8 f0 f1 b8=>⟨_,_,rfl,rfl,_,rfl,bR (λz =>?_) λz =>?_⟩⟩⟩
  ·have b9:=b6.trans b8
   have es9:=b8.st _ _ nsa es6
   refine ⟨_,rfl,_,rfl,_,rfl,sa,_,rfl,.inl (SqL.of es9),az.mpr ⟨p,(A.length:Int),by rw[wW];rfl,b9.pot,aF (by lia) (by lia),λdr Hr r0 r1 br =>?_⟩⟩
   obtain ⟨u,um,hat⟩:=iC (g:=λu:Addr×List Int=>u.1) (ts:=A) r0 r1
   have br':=b9.trans br
   refine ⟨sa,_,dr,_,rfl,rfl,SqL.of (br.st _ _ nsa es9),hat,(by show 2<=xf;decide),λo ho=>q o (.ring u.2) _ (br'.same (ab ho _)) ⟨u.1,ae,(ab ho _) _ _ (br'.tup hp (tu u (mA u um))),?_⟩ ⟨(pu u (mA u um)).1,by have:=(pu u (mA u um)).len;lia⟩⟩
   have:=(pu u (mA u um)).len
   lia
  have b9:=b6.trans b8
  have es9:=b8.st _ _ nsa es6
  have eo9:=b8.st _ _ noa eo6
  refine ⟨_,rfl,rfl,_,rfl,?_⟩
  rw[decide_eq_false (by intro h;injection h with h;lia)]
  refine aT ⟨_,rfl,(by show 0<=xf;decide),λz3 hz3 =>?_⟩
  have b10:=b9.same (ab hz3 (.lst []))
  have es10:=(ab hz3 (.lst [])) _ _ es9
  have eo10:=(ab hz3 (.lst [])) _ _ eo9
  refine ⟨oa,z3,_,_,rfl,rfl,SqL.of eo10,SqL.of ae,.inl ⟨by rw[wW];exact zO Ol,_,rfl,aT ?_⟩⟩
  generalize upd H8 z3 (.lst [])=H10 at b10 es10 eo10
  refine ⟨_,rfl,(by show 0<=xf;decide),λz4 hz4 =>?_⟩
  have b11:=b10.same (ab hz4 (.lst []))
  have es11:=(ab hz4 (.lst [])) _ _ es10
  have eo11:=(ab hz4 (.lst [])) _ _ eo10
  refine ⟨sa,z4,_,_,rfl,rfl,SqL.of es11,SqL.of ae,.inl ⟨by rw[wW];exact zO Al,_,rfl,aT (aT ?_)⟩⟩
  generalize upd H10 z4 (.lst [])=H11 at b11 es11 eo11
  obtain ⟨n',rfl⟩:∃n',n=n'+1:=⟨n-1,by lia⟩
  obtain ⟨rm',rfl⟩:∃rm',rm=rm'+1:=⟨rm-1,by lia⟩
  refine ⟨_,rfl,_,rfl,_,rfl,oa,_,rfl,.inl (SqL.of eo11),az.mpr ⟨p,(O.length:Int),by rw[wW];rfl,b11.pot,aF (by lia) (by lia),λdp Hp1 p0 p1 bp =>?_⟩⟩
  obtain ⟨v,vm,hat⟩:=rY (xs:=O) p0 p1
  have bp':=b11.trans bp
  refine ⟨oa,_,dp,_,rfl,rfl,SqL.of (bp.st _ _ noa eo11),hat,?_⟩
  refine ⟨_,rfl,_,rfl,_,rfl,_,rfl,_,rfl,_,rfl,(by show 1<=xf;decide),λo ho =>?_⟩
  have b2:=bp'.same (ab ho (.lst [.int v]))
  refine ⟨t,o,_,_,rfl,rfl,SqL.of (b2.st _ _ tp et),SqL.of ae,aR (by rw[wW];show _+1<=_;lia),λt2 ht2 =>?_⟩
  have nt2:=bz b2.pot ht2
  have b3:=b2.same (ab ht2 (.lst (T.map V.int++[.int v])))
  have e3:upd (upd Hp1 o (.lst [.int v])) t2 (.lst (T.map V.int++[.int v])) t2=some (.lst ((T++[v]).map V.int)):=by rw[ae,xq];rfl
  generalize upd (upd Hp1 o (.lst [.int v])) t2 (.lst (T.map V.int++[.int v]))=H3 at b3 e3
  refine ⟨_,rfl,_,rfl,_,_,rfl,rfl,cj.mpr ⟨p,r,wa,rl,t2,k,m,rm',ts,ws,T++[v],Kp,us,by show [_,_,_,_,_,_,V.int (((rm'+1:Nat):Int)-1)]=_;rw[show ((rm'+1:Nat):Int)-1=(rm':Int) by lia],b3.pot,W.bu b3 hp,m4,b3.st _ _ wap hw,wap,lw,b3.st _ _ nrl er,tu.bu b3 hp,pu,lu,e3,nt2,by rw[w9];show _+1+_<=_;lia,b3.st _ _ kp ek,kp,by lia,by lia,λa1 tr1 H4 b4 i1 ne1 =>?_⟩⟩
  have b34:=b3.trans b4
  refine ⟨_,rfl,_,rfl,_,rfl,_,rfl,_,rfl,_,rfl,_,rfl,_,rfl,_,rfl,(by show 1<=xf;decide),λo5 ho5 =>?_⟩
  have b5:=b34.same (ab ho5 (.lst [.int v]))
  have i5:=i1.same (ab ho5 (.lst [.int v]))
  refine ⟨k,o5,_,_,rfl,rfl,SqL.of (b5.st _ _ kp ek),SqL.of ae,aR (by rw[wW];show _+1<=_;lia),λk2 hk2 =>?_⟩
  have nk2:=bz b5.pot hk2
  have b6:=b5.same (ab hk2 (.lst (Kp.map V.int++[.int v])))
  have i6:=i5.same (ab hk2 (.lst (Kp.map V.int++[.int v])))
  have e6:upd (upd H4 o5 (.lst [.int v])) k2 (.lst (Kp.map V.int++[.int v])) k2=some (.lst ((Kp++[v]).map V.int)):=by rw[ae,xq];rfl
  generalize upd (upd H4 o5 (.lst [.int v])) k2 (.lst (Kp.map V.int++[.int v]))=H6 at b6 e6 i6
  refine ⟨_,rfl,_,_,rfl,rfl,cj.mpr ⟨p,r,wa,rl,t,k2,m,rm',ts,ws,T,Kp++[v],us,by show [_,_,_,_,_,_,V.int (((rm'+1:Nat):Int)-1)]=_;rw[show ((rm'+1:Nat):Int)-1=(rm':Int) by lia],b6.pot,W.bu b6 hp,m4,b6.st _ _ wap hw,wap,lw,b6.st _ _ nrl er,tu.bu b6 hp,pu,lu,b6.st _ _ tp et,tp,by lia,e6,nk2,by rw[w9];show _+1+_<=_;lia,by lia,λa2 tr2 H7 b7 i7 ne2 =>?_⟩⟩
  exact ⟨(by show 4<=xf;decide),λo8 ho8=>q o8 (.part v tr1 tr2) _ ((b6.trans b7).same (ab ho8 _)) ⟨rm',a1,a2,rfl,ae,(i6.bu b7 b6.pot).same (ab ho8 _),i7.same (ab ho8 _)⟩ ⟨ne1,ne2⟩⟩
end
open PySem L2
abbrev mN:Sp:=λvs H Q _=>∃(p a:Addr) (Z:List Int),vs=[.ref p,.ref a]/\Pt 1 H p/\H a=some (.tup (Z.map V.int))/\Z≠[]/\Z.length<=100/\∀(b:Addr) (Y:List Int) (H':Hp),Bu 1 p H H'->H' b=some (.tup (Y.map V.int))->Y.length<=200->Q (.ref b) H'
@[irreducible] def gH:Sp:=mN
theorem dv {vs:List V}{H:Hp}{Q:VK}{E:XK}:gH vs H Q E↔mN vs H Q E:=by
 delta gH
 exact zt
section
variable  {P:xA}{w:xQ}{K:wY}{mg:Str->Option xb}{base:Heap}{f T:Addr}{fd:yd}
theorem mO:aQ ["pot", "ring", "way"] ["pot", "ring"] (aB k5):=⟨rfl,rfl,rfl,by decide +kernel,rfl,by decide +kernel,by decide +kernel⟩
theorem sH (F:Fun K "_law_other" "_law_other" k5 f fd)(B:Blt mg)(cLTake:Cal P w K mg base 1 "_law_take" ["pot", "many"] cB):bG P w K mg base CX0 2 f fd ["pot", "ring"] gH:=by
 refine F.ok mO (λvs H Q E h =>?_) (λcdv A outer s H vs Q E hr h =>?_)
 ·obtain ⟨_,_,_,rfl,_⟩:=dv.mp h
  rfl
 obtain ⟨p,a,Z,rfl,hp,ea,zn,lz,q⟩:=dv.mp h
 refine ⟨_,(@ah _ _ _ _ _ (@aH _ _ 2 _ _ _ _ mO.nd rfl (Or.inl rfl) (ao cLTake hr (by decide) rfl (@aa _ _ _ _ _ (pv 0) (@aa _ _ _ _ _ ag af rfl) rfl)) rfl (by first | exact .inl rfl | exact .inr rfl | assumption))
  (@ah _ _ _ _ _ (@aO _ _ _ _ _ _ _ _ (aj bE (pv 2) ag (ay _)) (@ai _ _ _ (@aq _ _ _ _ (@aE _ _ _ _ _ _ _ _ da (bC gA (pv 1) (bP ag) bO) (bC gA (pv 1) bO (bP ag))))) ax)
  (@ah _ _ _ _ _ (@aO _ _ _ _ _ _ _ _ (aj bE (pv 2) ag (ay _)) (@ai _ _ _ (@aq _ _ _ _ (t8 (pv 1)))) ax)
  (@ah _ _ _ _ _ (@aO _ _ _ _ _ _ _ _ (aj bE (pv 2) ag (ay _)) (@ai _ _ _ (@aq _ _ _ _ (bC gA (pv 1) (bP ag) bO))) ax)
  (@ah _ _ _ _ _ (@aO _ _ _ _ _ _ _ _ (aj bE (pv 2) ag (ay _)) (@ai _ _ _ (@aq _ _ _ _ (@aE _ _ _ _ _ _ _ _ da (pv 1) (@aN _ _ _ _ _ (@aa _ _ _ _ _ (@au _ _ _ _ _ _ _ av (pv 1) ag (λ_ _=>rfl)) af rfl))))) ax)
  (@ah _ _ _ _ _ (@aO _ _ _ _ _ _ _ _ (aj bE (pv 2) ag (ay _)) (@ai _ _ _ (@aq _ _ _ _ (@aE _ _ _ _ _ _ _ _ da (bC gA (pv 1) bO (bP (oq kG ag))) (@aN _ _ _ _ _ (@aa _ _ _ _ _ (@aE _ _ _ _ _ _ _ _ bh (@au _ _ _ _ _ _ _ av (pv 1) (oq kG ag) (λ_ _=>rfl)) ag) af rfl))))) ax)
  (@ai _ _ _ (@aq _ _ _ _ (@aE _ _ _ _ _ _ _ _ da (@aN _ _ _ _ _ (@aa _ _ _ _ _ (@aE _ _ _ _ _ _ _ _ cY (@au _ _ _ _ _ _ _ av (pv 1) ag (λ_ _=>rfl)) ag) af rfl)) (bC gA (pv 1) (bP ag) bO)))))))))),?_⟩
 refine ⟨_,rfl,az.mpr ⟨p,6,rfl,hp,aF (by decide) (by decide),λw1 H1 w0 w2 b1 =>?_⟩⟩
 have ea1:=b1.tup hp ea
 have zl:0<Z.length:=yK.mpr zn
 have a0:atI (Z.map V.int) 0=some (.int (Z.getD 0 0)):=jL (n:=0) zl
 have al:=k8 (Z:=Z) (k:=0) zl
 have one:∀v:Int,[V.int v]=[v].map V.int:=λ_=>rfl
 refine ⟨_,rfl,rfl,_,rfl,bR (λz =>?_) λz =>?_⟩
 ·obtain ⟨Y1,f1,l1,_⟩:=hZ V.int Z (some 1) none
  obtain ⟨Y2,f2,l2,_⟩:=hZ V.int Z none (some 1)
  refine ⟨_,rfl,_,rfl,a,_,rfl,ea1,λc1 H2 s2 e2 =>?_⟩
  rw[f1] at e2
  refine ⟨_,rfl,_,rfl,a,_,rfl,s2 _ _ ea1,λc2 H3 s3 e3 =>?_⟩
  rw[f2] at e3
  have e2':=s3 _ _ e2
  refine ⟨c1,c2,_,_,rfl,rfl,e2',e3,aR (by rw[wW,wW];lia),λb3 H4 s4 e4=>q b3 (Y1++Y2) H4 (b1.same (s2.trans (s3.trans s4))) (by rw[e4,xq]) (by rw[w9];lia)⟩
 refine ⟨_,rfl,rfl,_,rfl,bR (λz =>?_) λz =>?_⟩
 ·exact ⟨_,rfl,a,_,rfl,SqT.of ea1,λo ho=>q o Z.reverse _ (b1.same (ab ho _)) (by rw[ae,D0]) (by rw[z8];lia)⟩
 refine ⟨_,rfl,rfl,_,rfl,bR (λz =>?_) λz =>?_⟩
 ·obtain ⟨Y1,f1,l1,_⟩:=hZ V.int Z (some 1) none
  exact ⟨_,rfl,_,rfl,a,_,rfl,ea1,λc1 H2 s2 e2=>q c1 Y1 H2 (b1.same s2) (by rw[e2,f1]) (by lia)⟩
 refine ⟨_,rfl,rfl,_,rfl,bR (λz =>?_) λz =>?_⟩
 ·refine ⟨_,rfl,_,rfl,a,_,0,_,rfl,rfl,SqT.of ea1,a0,(by show 1<=xf;decide),λo ho =>?_⟩
  exact ⟨a,o,_,_,rfl,rfl,(ab ho _) _ _ ea1,ae,aR (by rw[wW];show _+1<=_;lia),λb3 H4 s4 e4=>q b3 (Z++[Z.getD 0 0]) H4 (b1.same ((ab ho _).trans s4)) (by rw[e4,xq];rfl) (by rw[w9];show _+1<=_;lia)⟩
 refine ⟨_,rfl,rfl,_,rfl,bR (λz =>?_) λz =>?_⟩
 ·obtain ⟨Y1,f1,l1,_⟩:=hZ V.int Z none (some (-1))
  refine ⟨_,rfl,1,rfl,_,rfl,a,_,rfl,ea1,λc1 H2 s2 e2 =>?_⟩
  have e2:H2 c1=some (.tup (Y1.map V.int)):=e2.trans (by rw[<- f1])
  refine ⟨_,rfl,1,rfl,a,_,_,_,rfl,rfl,SqT.of (s2 _ _ ea1),al,_,_,rfl,rfl,(by show 1<=xf;decide),λo ho =>?_⟩
  exact ⟨c1,o,_,_,rfl,rfl,(ab ho _) _ _ e2,ae,aR (by rw[wW];show _+1<=_;lia),λb3 H4 s4 e4=>q b3 (Y1++[prv Z 0+1]) H4 (b1.same (s2.trans ((ab ho _).trans s4))) (by rw[e4,xq];rfl) (by rw[w9];show _+1<=_;lia)⟩
 ·obtain ⟨Y1,f1,l1,_⟩:=hZ V.int Z (some 1) none
  refine ⟨_,rfl,a,_,0,_,rfl,rfl,SqT.of ea1,a0,_,_,rfl,rfl,(by show 1<=xf;decide),λo ho =>?_⟩
  have s0:=ab ho (.tup [.int (Z.getD 0 0-1)])
  refine ⟨_,rfl,_,rfl,a,_,rfl,s0 _ _ ea1,λc1 H2 s2 e2 =>?_⟩
  rw[f1] at e2
  exact ⟨o,c1,_,_,rfl,rfl,s2 _ _ ae,e2,aR (by rw[wW];show 1+_<=_;lia),λb3 H4 s4 e4=>q b3 ([Z.getD 0 0-1]++Y1) H4 (b1.same (s0.trans (s2.trans s4))) (by rw[e4,xq];rfl) (by rw[w9];show 1+_<=_;lia)⟩
end
abbrev sI:Sp:=λvs H Q _=>∃(p l:Addr) (rs:List (List Int×Int)),vs=[.ref p,.ref l]/\Pt 1 H p/\Rows true H l rs/\rs.length<=50/\(∀r∈rs,r.1≠[]/\r.1.length<=100)/\∀(l':Addr) (rs':List (List Int×Int)) (H':Hp),Bu 1 p H H'->Rows true H' l' rs'->Q (.ref l') H'
@[irreducible] def pF:Sp:=sI
theorem fE {vs:List V}{H:Hp}{Q:VK}{E:XK}:pF vs H Q E↔sI vs H Q E:=by
 delta pF
 exact zt
def bq (H:Hp)(u:RU):Prop:=H u.1=some (.tup [.ref u.2.1,.int u.2.2.2])/\H u.2.1=some (.tup (u.2.2.1.map V.int))/\u.2.2.1.length<=200
theorem bq.same {H H':Hp}{u:RU}(h:bq H u)(s:aK H H'):bq H' u:=⟨s _ _ h.1,s _ _ h.2.1,h.2.2⟩
theorem bq.bu {H H':Hp}{u:RU}{p:Addr}(h:bq H u)(b:Bu 1 p H H')(hp:Pt 1 H p):bq H' u:=⟨b.tup hp h.1,b.tup hp h.2.1,h.2.2⟩
section
variable  {P:xA}{w:xQ}{K:wY}{mg:Str->Option xb}{base:Heap}{f T:Addr}{fd:yd}
theorem cf:aQ ["pot", "rows", "way", "at", "ring", "share"] ["pot", "rows"] (aB dZ):=⟨rfl,rfl,rfl,by decide +kernel,rfl,by decide +kernel,by decide +kernel⟩
theorem jO (F:Fun K "_law_spoilt_rows" "_law_spoilt_rows" dZ f fd)(B:Blt mg)(cLTake:Cal P w K mg base 1 "_law_take" ["pot", "many"] cB)(cLOther:Cal P w K mg base 2 "_law_other" ["pot", "ring"] gH):bG P w K mg base CX0 3 f fd ["pot", "rows"] pF:=by
 refine F.ok cf (λvs H Q E h =>?_) (λcdv A outer s H vs Q E hr h =>?_)
 ·obtain ⟨_,_,_,rfl,_⟩:=fE.mp h
  rfl
 obtain ⟨p,l,rs,rfl,hp,R,lrs,rne,q⟩:=fE.mp h
 refine ⟨_,(@ah _ _ _ _ _ (@aH _ _ 2 _ _ _ _ cf.nd rfl (Or.inl rfl) (ao cLTake hr (by decide) rfl (@aa _ _ _ _ _ (pv 0) (@aa _ _ _ _ _ ag af rfl) rfl)) rfl (by first | exact .inl rfl | exact .inr rfl | assumption))
  (@ah _ _ _ _ _ (@aO _ _ _ _ _ _ _ _ (aj (cR hr) (pv 1) (@aI _ _ _ _ af) (ay _)) (@ai _ _ _ (@aq _ _ _ _ (@aI _ _ _ _ (@aa _ _ _ _ _ (@aN _ _ _ _ _ (@aa _ _ _ _ _ (@aN _ _ _ _ _ (@aa _ _ _ _ _ ag af rfl)) (@aa _ _ _ _ _ ag af rfl) rfl)) af rfl)))) ax)
  (@ah _ _ _ _ _ (@aH _ _ 3 _ _ _ _ cf.nd rfl (Or.inl rfl) (ao cLTake hr (by decide) rfl (@aa _ _ _ _ _ (pv 0) (@aa _ _ _ _ _ (aA aX rfl B.b_len cu (@aa _ _ _ _ _ (pv 1) af rfl)) af rfl) rfl)) rfl (by first | exact .inl rfl | exact .inr rfl | assumption))
  (@ah _ _ _ _ _ (@iP _ _ _ _ _ _ (@au _ _ _ _ _ _ _ bD (pv 1) (pv 3) (λ_ _=>rfl)) (iO rfl (bQ (aD (i:=4) cf.nd rfl (Or.inl rfl)) (bQ (aD (i:=5) cf.nd rfl (Or.inl rfl)) gi))) rfl rfl rfl)
  (@ah _ _ _ _ _ (@aO _ _ _ _ _ _ _ _ (aj gj (pv 2) ag (ay _)) (@ai _ _ _ (@aq _ _ _ _ (@aE _ _ _ _ _ _ _ _ bW (@aE _ _ _ _ _ _ _ _ bW (bC cM (pv 1) bO (bP (pv 3))) (@aI _ _ _ _ (@aa _ _ _ _ _ (@aN _ _ _ _ _ (@aa _ _ _ _ _ (ao cLOther hr (by decide) rfl (@aa _ _ _ _ _ (pv 0) (@aa _ _ _ _ _ (pv 4) af rfl) rfl)) (@aa _ _ _ _ _ (pv 5) af rfl) rfl)) af rfl))) (bC cM (pv 1) (bP (@aE _ _ _ _ _ _ _ _ bh (pv 3) ag)) bO)))) ax)
  (@ah _ _ _ _ _ (@aO _ _ _ _ _ _ _ _ (aj bE (pv 2) ag (ay _)) (@ai _ _ _ (@aq _ _ _ _ (@aE _ _ _ _ _ _ _ _ bW (@aE _ _ _ _ _ _ _ _ bW (bC cM (pv 1) bO (bP (pv 3))) (@aI _ _ _ _ (@aa _ _ _ _ _ (@aN _ _ _ _ _ (@aa _ _ _ _ _ (pv 4) (@aa _ _ _ _ _ (@aE _ _ _ _ _ _ _ _ cY (pv 5) ag) af rfl) rfl)) af rfl))) (bC cM (pv 1) (bP (@aE _ _ _ _ _ _ _ _ bh (pv 3) ag)) bO)))) ax)
  (@ah _ _ _ _ _ (@aO _ _ _ _ _ _ _ _ (aj bE (pv 2) ag (ay _)) (@ai _ _ _ (@aq _ _ _ _ (@aE _ _ _ _ _ _ _ _ bW (@aE _ _ _ _ _ _ _ _ bW (bC cM (pv 1) bO (bP (pv 3))) (@aI _ _ _ _ (@aa _ _ _ _ _ (@aN _ _ _ _ _ (@aa _ _ _ _ _ (pv 4) (@aa _ _ _ _ _ (@aE _ _ _ _ _ _ _ _ bh (pv 5) ag) af rfl) rfl)) af rfl))) (bC cM (pv 1) (bP (@aE _ _ _ _ _ _ _ _ bh (pv 3) ag)) bO)))) ax)
  (@ai _ _ _ (@aq _ _ _ _ (@aE _ _ _ _ _ _ _ _ bW (pv 1) (@aI _ _ _ _ (@aa _ _ _ _ _ (@au _ _ _ _ _ _ _ bD (pv 1) (pv 3) (λ_ _=>rfl)) af rfl)))))))))))),?_⟩
 obtain ⟨us,el,tu,ers,lus⟩:=R
 have el:H l=some (.lst (us.map λu =>.ref u.1)):=el
 have nl:=jw hp el
 have lum:(us.map λu=>V.ref u.1).length=us.length:=wW _
 have lu:us.length<=50:=by rw[<- ers,wW] at lrs;exact lrs
 refine ⟨_,rfl,az.mpr ⟨p,5,rfl,hp,aF (by decide) (by decide),λw1 H1 w0 w2 b1 =>?_⟩⟩
 have el1:=b1.st _ _ nl el
 refine ⟨_,rfl,(by show 0<=xf;decide),λz1 hz1 =>?_⟩
 have g2:=ab hz1 (.lst [])
 have b2:=b1.same g2
 have el2:=g2 _ _ el1
 refine ⟨l,z1,_,_,rfl,rfl,SqL.of el2,SqL.of ae,?_⟩
 generalize upd H1 z1 (.lst [])=H2 at g2 b2 el2
 by_cases un:us=[]
 ·refine .inr ⟨by rw[un];exact .nil,_,rfl,aS ⟨(by show 1<=xf;decide),λo1 ho1=>⟨(by show 2<=xf;decide),λo2 ho2=>⟨(by show 1<=xf;decide),λo3 ho3 =>?_⟩⟩⟩⟩
  have s1:=ab ho1 (.tup [.int 0])
  have s2:=ab ho2 (.tup [.ref o1,.int 1])
  have s3:=ab ho3 (.lst [.ref o2])
  refine q o3 [([0],1)] _ (((b2.same s1).same s2).same s3) ⟨[(o2,o1,[0],1)],ae,λu hu =>?_,rfl,by show 1<=200;decide⟩
  rw[xo.mp hu]
  exact ⟨s3 _ _ ae,s3 _ _ (s2 _ _ ae),by show 1<=200;decide⟩
 have ul:0<us.length:=yK.mpr un
 refine .inl ⟨by rw[lum];exact zO ul,_,rfl,aT ?_⟩
 refine ⟨_,rfl,_,rfl,l,_,rfl,.inl (SqL.of el2),az.mpr ⟨p,(us.length:Int),by rw[lum];rfl,b2.pot,aF (by lia) (by lia),λdd H3 d0 d1 b3 =>?_⟩⟩
 have b3':=b2.trans b3
 have el3:=b3.st _ _ nl el2
 obtain ⟨u,um,hat⟩:=iC (g:=λu:RU=>u.1) (ts:=us) d0 d1
 have t3:∀u∈us,bq H3 u:=λu hu=>bq.bu (tu u hu) b3' hp
 have ur:(u.2.2.1,u.2.2.2)∈rs:=by rw[<- ers];exact zr (f:=(·.2.2)) um
 obtain ⟨une,ulen⟩:=rne _ ur
 refine ⟨_,rfl,_,rfl,l,_,dd,_,rfl,rfl,SqL.of el3,hat,u.1,_,rfl,SqT.of (t3 u um).1,rfl,_,_,rfl,_,_,rfl,rfl,?_⟩
 refine ⟨_,rfl,_,_,rfl,rfl,_,rfl,bR (λz =>?_) λz =>?_⟩
 ·obtain ⟨Y1,f1,l1,m1⟩:=hZ (λu:RU=>V.ref u.1) us none (some dd)
  obtain ⟨Y2,f2,l2,m2⟩:=hZ (λu:RU=>V.ref u.1) us (some (dd+1)) none
  have la:Y1.length+Y2.length<=us.length+us.length:=B0 l1 l2
  refine ⟨_,rfl,_,rfl,_,rfl,l,_,rfl,SqL.of el3,λc1 hc1 =>?_⟩
  have g4:=ab hc1 (.lst (bL (us.map λu:RU=>V.ref u.1) none (some dd)))
  have e4:upd H3 c1 (.lst (bL (us.map λu:RU=>V.ref u.1) none (some dd))) c1=some (.lst (Y1.map λu:RU=>V.ref u.1)):=by rw[ae,f1]
  have el4:=g4 _ _ el3
  have b4:=b3'.same g4
  have t4:∀u∈us,bq (upd H3 c1 (.lst (bL (us.map λu:RU=>V.ref u.1) none (some dd)))) u:=λu hu=>(t3 u hu).same g4
  have n1:=bz b3'.pot hc1
  generalize upd H3 c1 (.lst (bL (us.map λu:RU=>V.ref u.1) none (some dd)))=H4 at g4 e4 el4 b4 t4
  refine ⟨_,rfl,_,rfl,dv.mpr ⟨p,u.2.1,u.2.2.1,rfl,b4.pot,(t4 u um).2.1,une,ulen,λob Y H5 b5 eY lY =>?_⟩⟩
  have e45':=b5.st _ _ n1 e4
  have el5':=b5.st _ _ nl el4
  have b5':=b4.trans b5
  have t5':∀v∈us,bq H5 v:=λv hv=>(t4 v hv).bu b5 b4.pot
  refine ⟨_,rfl,(by show 2<=xf;decide),λo4 ho4=>⟨(by show 1<=xf;decide),λc5 hc5 =>?_⟩⟩
  have g45:=ab ho4 (.tup [.ref ob,.int u.2.2.2])
  have R5:bq (upd H5 o4 (.tup [.ref ob,.int u.2.2.2])) (o4,ob,Y,u.2.2.2):=⟨ae,g45 _ _ eY,lY⟩
  have e44:=g45 _ _ e45'
  have el5:=g45 _ _ el5'
  have b5:=b5'.same g45
  have t5:∀v∈us,bq (upd H5 o4 (.tup [.ref ob,.int u.2.2.2])) v:=λv hv=>(t5' v hv).same g45
  generalize upd H5 o4 (.tup [.ref ob,.int u.2.2.2])=H5 at g45 R5 e44 el5 b5 t5 hc5
  generalize hx4:(o4,ob,Y,u.2.2.2)=x4 at R5
  have ho4':o4=x4.1:=by rw[<- hx4]
  subst ho4'
  have g5:=ab hc5 (.lst [.ref x4.1])
  have e45:=g5 _ _ e44
  have ec5:upd H5 c5 (.lst [.ref x4.1]) c5=some (.lst ([x4].map λu:RU=>V.ref u.1)):=ae
  generalize upd H5 c5 (.lst [.ref x4.1])=H6 at g5 e45 ec5
  have R6:=R5.same g5
  refine ⟨c1,c5,_,_,rfl,rfl,SqL.of e45,SqL.of ec5,aR (by rw[wW];show _+1<=_;lia),λc6 hc6 =>?_⟩
  have g6:=ab hc6 (.lst (Y1.map (λu:RU=>V.ref u.1)++[x4].map λu:RU=>V.ref u.1))
  have ec6:upd H6 c6 (.lst (Y1.map (λu:RU=>V.ref u.1)++[x4].map λu:RU=>V.ref u.1)) c6=some (.lst ((Y1++[x4]).map λu:RU=>V.ref u.1)):=by rw[ae,xq]
  have el6:=g6 _ _ (g5 _ _ el5)
  have R7:=R6.same g6
  have b7:=(b5.same g5).same g6
  have t7:∀u∈us,bq (upd H6 c6 (.lst (Y1.map (λu:RU=>V.ref u.1)++[x4].map λu:RU=>V.ref u.1))) u:=λu hu=>((t5 u hu).same g5).same g6
  generalize upd H6 c6 (.lst (Y1.map (λu:RU=>V.ref u.1)++[x4].map λu:RU=>V.ref u.1))=H7 at g6 ec6 el6 R7 b7 t7
  refine ⟨_,rfl,_,rfl,_,_,rfl,rfl,_,rfl,l,_,rfl,SqL.of el6,λc8 hc8 =>?_⟩
  have g8:=ab hc8 (.lst (bL (us.map λu:RU=>V.ref u.1) (some (dd+1)) none))
  have ec8:upd H7 c8 (.lst (bL (us.map λu:RU=>V.ref u.1) (some (dd+1)) none)) c8=some (.lst (Y2.map λu:RU=>V.ref u.1)):=by rw[ae,f2]
  refine ⟨c6,c8,_,_,rfl,rfl,SqL.of (g8 _ _ ec6),SqL.of ec8,aR (by rw[wW,wW,w9];show _+1+_<=_;lia),λc9 hc9=>q c9 _ _ ((b7.same g8).same (ab hc9 _)) ⟨(Y1++[x4])++Y2,by rw[ae,xq (l₁:=Y1++[x4])];rfl,λu hu =>?_,rfl,by rw[w9,w9];show _+1+_<=_;lia⟩⟩
  have ss:=g8.trans (ab hc9 (.lst ((Y1++[x4]).map (λu:RU=>V.ref u.1)++Y2.map λu:RU=>V.ref u.1)))
  rcases xx.mp hu with h | h
  ·rcases xx.mp h with h | h
   ·exact (t7 u (m1 u h)).same ss
   ·rw[xo.mp h];exact R7.same ss
  ·exact (t7 u (m2 u h)).same ss
 refine ⟨_,rfl,rfl,_,rfl,bR (λz =>?_) λz =>?_⟩
 ·obtain ⟨Y1,f1,l1,m1⟩:=hZ (λu:RU=>V.ref u.1) us none (some dd)
  obtain ⟨Y2,f2,l2,m2⟩:=hZ (λu:RU=>V.ref u.1) us (some (dd+1)) none
  have la:Y1.length+Y2.length<=us.length+us.length:=B0 l1 l2
  refine ⟨_,rfl,_,rfl,_,rfl,l,_,rfl,SqL.of el3,λc1 hc1 =>?_⟩
  have g4:=ab hc1 (.lst (bL (us.map λu:RU=>V.ref u.1) none (some dd)))
  have e4:upd H3 c1 (.lst (bL (us.map λu:RU=>V.ref u.1) none (some dd))) c1=some (.lst (Y1.map λu:RU=>V.ref u.1)):=by rw[ae,f1]
  have el4:=g4 _ _ el3
  have b4:=b3'.same g4
  have t4:∀u∈us,bq (upd H3 c1 (.lst (bL (us.map λu:RU=>V.ref u.1) none (some dd)))) u:=λu hu=>(t3 u hu).same g4
  have n1:=bz b3'.pot hc1
  generalize upd H3 c1 (.lst (bL (us.map λu:RU=>V.ref u.1) none (some dd)))=H4 at g4 e4 el4 b4 t4
  refine ⟨_,rfl,_,rfl,_,_,rfl,rfl,(by show 2<=xf;decide),λo4 ho4=>⟨(by show 1<=xf;decide),λc5 hc5 =>?_⟩⟩
  have g45:=ab ho4 (.tup [.ref u.2.1,.int (u.2.2.2-1)])
  have R5:bq (upd H4 o4 (.tup [.ref u.2.1,.int (u.2.2.2-1)])) (o4,u.2.1,u.2.2.1,u.2.2.2-1):=⟨ae,g45 _ _ (t4 u um).2.1,(t4 u um).2.2⟩
  have e44:=g45 _ _ e4
  have el5:=g45 _ _ el4
  have b5:=b4.same g45
  have t5:∀v∈us,bq (upd H4 o4 (.tup [.ref u.2.1,.int (u.2.2.2-1)])) v:=λv hv=>(t4 v hv).same g45
  generalize upd H4 o4 (.tup [.ref u.2.1,.int (u.2.2.2-1)])=H5 at g45 R5 e44 el5 b5 t5 hc5
  generalize hx4:(o4,u.2.1,u.2.2.1,u.2.2.2-1)=x4 at R5
  have ho4':o4=x4.1:=by rw[<- hx4]
  subst ho4'
  have g5:=ab hc5 (.lst [.ref x4.1])
  have e45:=g5 _ _ e44
  have ec5:upd H5 c5 (.lst [.ref x4.1]) c5=some (.lst ([x4].map λu:RU=>V.ref u.1)):=ae
  generalize upd H5 c5 (.lst [.ref x4.1])=H6 at g5 e45 ec5
  have R6:=R5.same g5
  refine ⟨c1,c5,_,_,rfl,rfl,SqL.of e45,SqL.of ec5,aR (by rw[wW];show _+1<=_;lia),λc6 hc6 =>?_⟩
  have g6:=ab hc6 (.lst (Y1.map (λu:RU=>V.ref u.1)++[x4].map λu:RU=>V.ref u.1))
  have ec6:upd H6 c6 (.lst (Y1.map (λu:RU=>V.ref u.1)++[x4].map λu:RU=>V.ref u.1)) c6=some (.lst ((Y1++[x4]).map λu:RU=>V.ref u.1)):=by rw[ae,xq]
  have el6:=g6 _ _ (g5 _ _ el5)
  have R7:=R6.same g6
  have b7:=(b5.same g5).same g6
  have t7:∀u∈us,bq (upd H6 c6 (.lst (Y1.map (λu:RU=>V.ref u.1)++[x4].map λu:RU=>V.ref u.1))) u:=λu hu=>((t5 u hu).same g5).same g6
  generalize upd H6 c6 (.lst (Y1.map (λu:RU=>V.ref u.1)++[x4].map λu:RU=>V.ref u.1))=H7 at g6 ec6 el6 R7 b7 t7
  refine ⟨_,rfl,_,rfl,_,_,rfl,rfl,_,rfl,l,_,rfl,SqL.of el6,λc8 hc8 =>?_⟩
  have g8:=ab hc8 (.lst (bL (us.map λu:RU=>V.ref u.1) (some (dd+1)) none))
  have ec8:upd H7 c8 (.lst (bL (us.map λu:RU=>V.ref u.1) (some (dd+1)) none)) c8=some (.lst (Y2.map λu:RU=>V.ref u.1)):=by rw[ae,f2]
  refine ⟨c6,c8,_,_,rfl,rfl,SqL.of (g8 _ _ ec6),SqL.of ec8,aR (by rw[wW,wW,w9];show _+1+_<=_;lia),λc9 hc9=>q c9 _ _ ((b7.same g8).same (ab hc9 _)) ⟨(Y1++[x4])++Y2,by rw[ae,xq (l₁:=Y1++[x4])];rfl,λu hu =>?_,rfl,by rw[w9,w9];show _+1+_<=_;lia⟩⟩
  have ss:=g8.trans (ab hc9 (.lst ((Y1++[x4]).map (λu:RU=>V.ref u.1)++Y2.map λu:RU=>V.ref u.1)))
  rcases xx.mp hu with h | h
  ·rcases xx.mp h with h | h
   ·exact (t7 u (m1 u h)).same ss
   ·rw[xo.mp h];exact R7.same ss
  ·exact (t7 u (m2 u h)).same ss
 refine ⟨_,rfl,rfl,_,rfl,bR (λz =>?_) λz =>?_⟩
 ·obtain ⟨Y1,f1,l1,m1⟩:=hZ (λu:RU=>V.ref u.1) us none (some dd)
  obtain ⟨Y2,f2,l2,m2⟩:=hZ (λu:RU=>V.ref u.1) us (some (dd+1)) none
  have la:Y1.length+Y2.length<=us.length+us.length:=B0 l1 l2
  refine ⟨_,rfl,_,rfl,_,rfl,l,_,rfl,SqL.of el3,λc1 hc1 =>?_⟩
  have g4:=ab hc1 (.lst (bL (us.map λu:RU=>V.ref u.1) none (some dd)))
  have e4:upd H3 c1 (.lst (bL (us.map λu:RU=>V.ref u.1) none (some dd))) c1=some (.lst (Y1.map λu:RU=>V.ref u.1)):=by rw[ae,f1]
  have el4:=g4 _ _ el3
  have b4:=b3'.same g4
  have t4:∀u∈us,bq (upd H3 c1 (.lst (bL (us.map λu:RU=>V.ref u.1) none (some dd)))) u:=λu hu=>(t3 u hu).same g4
  have n1:=bz b3'.pot hc1
  generalize upd H3 c1 (.lst (bL (us.map λu:RU=>V.ref u.1) none (some dd)))=H4 at g4 e4 el4 b4 t4
  refine ⟨_,rfl,_,rfl,_,_,rfl,rfl,(by show 2<=xf;decide),λo4 ho4=>⟨(by show 1<=xf;decide),λc5 hc5 =>?_⟩⟩
  have g45:=ab ho4 (.tup [.ref u.2.1,.int (u.2.2.2+1)])
  have R5:bq (upd H4 o4 (.tup [.ref u.2.1,.int (u.2.2.2+1)])) (o4,u.2.1,u.2.2.1,u.2.2.2+1):=⟨ae,g45 _ _ (t4 u um).2.1,(t4 u um).2.2⟩
  have e44:=g45 _ _ e4
  have el5:=g45 _ _ el4
  have b5:=b4.same g45
  have t5:∀v∈us,bq (upd H4 o4 (.tup [.ref u.2.1,.int (u.2.2.2+1)])) v:=λv hv=>(t4 v hv).same g45
  generalize upd H4 o4 (.tup [.ref u.2.1,.int (u.2.2.2+1)])=H5 at g45 R5 e44 el5 b5 t5 hc5
  generalize hx4:(o4,u.2.1,u.2.2.1,u.2.2.2+1)=x4 at R5
  have ho4':o4=x4.1:=by rw[<- hx4]
  subst ho4'
  have g5:=ab hc5 (.lst [.ref x4.1])
  have e45:=g5 _ _ e44
  have ec5:upd H5 c5 (.lst [.ref x4.1]) c5=some (.lst ([x4].map λu:RU=>V.ref u.1)):=ae
  generalize upd H5 c5 (.lst [.ref x4.1])=H6 at g5 e45 ec5
  have R6:=R5.same g5
  refine ⟨c1,c5,_,_,rfl,rfl,SqL.of e45,SqL.of ec5,aR (by rw[wW];show _+1<=_;lia),λc6 hc6 =>?_⟩
  have g6:=ab hc6 (.lst (Y1.map (λu:RU=>V.ref u.1)++[x4].map λu:RU=>V.ref u.1))
  have ec6:upd H6 c6 (.lst (Y1.map (λu:RU=>V.ref u.1)++[x4].map λu:RU=>V.ref u.1)) c6=some (.lst ((Y1++[x4]).map λu:RU=>V.ref u.1)):=by rw[ae,xq]
  have el6:=g6 _ _ (g5 _ _ el5)
  have R7:=R6.same g6
  have b7:=(b5.same g5).same g6
  have t7:∀u∈us,bq (upd H6 c6 (.lst (Y1.map (λu:RU=>V.ref u.1)++[x4].map λu:RU=>V.ref u.1))) u:=λu hu=>((t5 u hu).same g5).same g6
  generalize upd H6 c6 (.lst (Y1.map (λu:RU=>V.ref u.1)++[x4].map λu:RU=>V.ref u.1))=H7 at g6 ec6 el6 R7 b7 t7
  refine ⟨_,rfl,_,rfl,_,_,rfl,rfl,_,rfl,l,_,rfl,SqL.of el6,λc8 hc8 =>?_⟩
  have g8:=ab hc8 (.lst (bL (us.map λu:RU=>V.ref u.1) (some (dd+1)) none))
  have ec8:upd H7 c8 (.lst (bL (us.map λu:RU=>V.ref u.1) (some (dd+1)) none)) c8=some (.lst (Y2.map λu:RU=>V.ref u.1)):=by rw[ae,f2]
  refine ⟨c6,c8,_,_,rfl,rfl,SqL.of (g8 _ _ ec6),SqL.of ec8,aR (by rw[wW,wW,w9];show _+1+_<=_;lia),λc9 hc9=>q c9 _ _ ((b7.same g8).same (ab hc9 _)) ⟨(Y1++[x4])++Y2,by rw[ae,xq (l₁:=Y1++[x4])];rfl,λu hu =>?_,rfl,by rw[w9,w9];show _+1+_<=_;lia⟩⟩
  have ss:=g8.trans (ab hc9 (.lst ((Y1++[x4]).map (λu:RU=>V.ref u.1)++Y2.map λu:RU=>V.ref u.1)))
  rcases xx.mp hu with h | h
  ·rcases xx.mp h with h | h
   ·exact (t7 u (m1 u h)).same ss
   ·rw[xo.mp h];exact R7.same ss
  ·exact (t7 u (m2 u h)).same ss
 ·refine ⟨_,rfl,_,rfl,_,rfl,l,_,dd,_,rfl,rfl,SqL.of el3,hat,(by show 1<=xf;decide),λc5 hc5 =>?_⟩
  have g5:=ab hc5 (.lst [.ref u.1])
  refine ⟨l,c5,_,_,rfl,rfl,SqL.of (g5 _ _ el3),SqL.of ae,aR (by rw[lum];show _+1<=_;lia),λc6 hc6=>q c6 _ _ ((b3'.same g5).same (ab hc6 _)) ⟨us++[u],by rw[ae,xq];rfl,λv hv =>?_,rfl,by rw[w9];show _+1<=_;lia⟩⟩
  have ss:=g5.trans (ab hc6 (.lst (us.map (λu=>V.ref u.1)++[.ref u.1])))
  rcases xx.mp hv with h | h
  ·exact (t3 v h).same ss
  ·rw[xo.mp h];exact (t3 u um).same ss
end
open PySem L2
@[irreducible] def eD:Nat->Sp
 | 0=>λ_ _ _ _=>False
 | n+1=>λvs H Q _=>∃(p r a:Addr) (m:Nat) (ts:List (Addr×List Int)) (tr:Tr),vs=[.ref p,.ref r,.ref a]/\Pt 1 H p/\Wb H r m ts/\m<=40/\bJ true H n a tr/\qK tr/\∀(a':Addr) (tr':Tr) (H':Hp),Bu 1 p H H'->bJ true H' n a' tr'->Q (.ref a') H'
theorem cJ {n:Nat}{vs:List V}{H:Hp}{Q:VK}{E:XK}:eD (n+1) vs H Q E↔∃(p r a:Addr) (m:Nat) (ts:List (Addr×List Int)) (tr:Tr),vs=[.ref p,.ref r,.ref a]/\Pt 1 H p/\Wb H r m ts/\m<=40/\bJ true H n a tr/\qK tr/\∀(a':Addr) (tr':Tr) (H':Hp),Bu 1 p H H'->bJ true H' n a' tr'->Q (.ref a') H':=by
 unfold eD
 exact zt
theorem oh {vs:List V}{H:Hp}{Q:VK}{E:XK}:¬ eD 0 vs H Q E:=by
 unfold eD
 exact id
section
variable  {P:xA}{w:xQ}{K:wY}{mg:Str->Option xb}{base:Heap}{f T:Addr}{fd:yd}
theorem kA:aQ ["pot", "web", "tree", "way"] ["pot", "web", "tree"] (aB ji):=⟨rfl,rfl,rfl,by decide +kernel,rfl,by decide +kernel,by decide +kernel⟩
theorem qM (F:Fun K "_law_spoilt" "_law_spoilt" ji f fd)(B:Blt mg)(n:Nat)(cLSpoilt:Cal P w K mg base (3+n) "_law_spoilt" ["pot", "web", "tree"] (eD n))(cLTake:Cal P w K mg base 1 "_law_take" ["pot", "many"] cB)(cLOther:Cal P w K mg base 2 "_law_other" ["pot", "ring"] gH)(cLSpoiltRows:Cal P w K mg base 3 "_law_spoilt_rows" ["pot", "rows"] pF):bG P w K mg base CX0 (3+n+1) f fd ["pot", "web", "tree"] (eD (n+1)):=by
 refine F.ok kA (λvs H Q E h =>?_) (λcdv A outer s H vs Q E hr h =>?_)
 ·obtain ⟨_,_,_,_,_,_,rfl,_⟩:=cJ.mp h
  rfl
 obtain ⟨p,r,a,m,ts,tr,rfl,hp,W,m4,tr0,ne,q⟩:=cJ.mp h
 refine ⟨_,(@ah _ _ _ _ _ (@aO _ _ _ _ _ _ _ _ (aj bE (@au _ _ _ _ _ _ _ av (pv 2) ag (λ_ _=>rfl)) aU (ay _)) (@ah _ _ _ _ _ (@aO _ _ _ _ _ _ _ _ (aj bE (ao cLTake hr (by lia) rfl (@aa _ _ _ _ _ (pv 0) (@aa _ _ _ _ _ ag af rfl) rfl)) ag (ay _)) (@ai _ _ _ (@aq _ _ _ _ (@aN _ _ _ _ _ (@aa _ _ _ _ _ aU (@aa _ _ _ _ _ (@aI _ _ _ _ (@aa _ _ _ _ _ (@aN _ _ _ _ _ (@aa _ _ _ _ _ (@au _ _ _ _ _ _ _ av (pv 2) ag (λ_ _=>rfl)) (@aa _ _ _ _ _ ag af rfl) rfl)) af rfl)) af rfl) rfl)))) ax)
   (@ai _ _ _ (@aq _ _ _ _ (@aN _ _ _ _ _ (@aa _ _ _ _ _ aU (@aa _ _ _ _ _ (ao cLOther hr (by lia) rfl (@aa _ _ _ _ _ (pv 0) (@aa _ _ _ _ _ (@au _ _ _ _ _ _ _ av (pv 2) ag (λ_ _=>rfl)) af rfl) rfl)) af rfl) rfl))))) ax)
  (@ah _ _ _ _ _ (@aO _ _ _ _ _ _ _ _ (aj bE (@au _ _ _ _ _ _ _ av (pv 2) ag (λ_ _=>rfl)) aU (ay _)) (@ah _ _ _ _ _ (@aO _ _ _ _ _ _ _ _ (PW.pt (cK (aj (nL hr) (@au _ _ _ _ _ _ _ av (pv 2) ag (λ_ _=>rfl)) (@aI _ _ _ _ af) (ay _)) (cg (aj bE (ao cLTake hr (by lia) rfl (@aa _ _ _ _ _ (pv 0) (@aa _ _ _ _ _ ag af rfl) rfl)) ag (ay _))))) (@ai _ _ _ (@aq _ _ _ _ (@aN _ _ _ _ _ (@aa _ _ _ _ _ aU (@aa _ _ _ _ _ (@au _ _ _ _ _ _ _ av (@au _ _ _ _ _ _ _ bD (@au _ _ _ _ _ _ _ av (pv 2) ag (λ_ _=>rfl)) ag (λ_ _=>rfl)) ag (λ_ _=>rfl)) af rfl) rfl)))) ax)
   (@ai _ _ _ (@aq _ _ _ _ (@aN _ _ _ _ _ (@aa _ _ _ _ _ aU (@aa _ _ _ _ _ (ao cLSpoiltRows hr (by lia) rfl (@aa _ _ _ _ _ (pv 0) (@aa _ _ _ _ _ (@au _ _ _ _ _ _ _ av (pv 2) ag (λ_ _=>rfl)) af rfl) rfl)) af rfl) rfl))))) ax)
  (@ah _ _ _ _ _ (@aH _ _ 3 _ _ _ _ kA.nd rfl (Or.inl rfl) (ao cLTake hr (by lia) rfl (@aa _ _ _ _ _ (pv 0) (@aa _ _ _ _ _ ag af rfl) rfl)) rfl (by first | exact .inl rfl | exact .inr rfl | assumption))
  (@ah _ _ _ _ _ (@aO _ _ _ _ _ _ _ _ (aj bE (pv 3) ag (ay _)) (@ai _ _ _ (@aq _ _ _ _ (@aN _ _ _ _ _ (@aa _ _ _ _ _ aU (@aa _ _ _ _ _ (@au _ _ _ _ _ _ _ av (pv 2) ag (λ_ _=>rfl)) (@aa _ _ _ _ _ (@au _ _ _ _ _ _ _ av (pv 2) ag (λ_ _=>rfl)) (@aa _ _ _ _ _ (@au _ _ _ _ _ _ _ av (pv 2) ag (λ_ _=>rfl)) af rfl) rfl) rfl) rfl)))) ax)
  (@ah _ _ _ _ _ (@aO _ _ _ _ _ _ _ _ (aj bE (pv 3) ag (ay _)) (@ai _ _ _ (@aq _ _ _ _ (@aN _ _ _ _ _ (@aa _ _ _ _ _ aU (@aa _ _ _ _ _ (@aE _ _ _ _ _ _ _ _ cY (ao cLTake hr (by lia) rfl (@aa _ _ _ _ _ (pv 0) (@aa _ _ _ _ _ (@aE _ _ _ _ _ _ _ _ bh (@au _ _ _ _ _ _ _ av (pv 1) ag (λ_ _=>rfl)) ag) af rfl) rfl)) ag) (@aa _ _ _ _ _ (@au _ _ _ _ _ _ _ av (pv 2) ag (λ_ _=>rfl)) (@aa _ _ _ _ _ (@au _ _ _ _ _ _ _ av (pv 2) ag (λ_ _=>rfl)) af rfl) rfl) rfl) rfl)))) ax)
  (@ah _ _ _ _ _ (@aO _ _ _ _ _ _ _ _ (aj gj (pv 3) ag (ay _)) (@ai _ _ _ (@aq _ _ _ _ (@aN _ _ _ _ _ (@aa _ _ _ _ _ aU (@aa _ _ _ _ _ (@au _ _ _ _ _ _ _ av (pv 2) ag (λ_ _=>rfl)) (@aa _ _ _ _ _ (ao cLSpoilt hr (xg _) rfl (@aa _ _ _ _ _ (pv 0) (@aa _ _ _ _ _ (pv 1) (@aa _ _ _ _ _ (@au _ _ _ _ _ _ _ av (pv 2) ag (λ_ _=>rfl)) af rfl) rfl) rfl)) (@aa _ _ _ _ _ (@au _ _ _ _ _ _ _ av (pv 2) ag (λ_ _=>rfl)) af rfl) rfl) rfl) rfl)))) ax)
  (@ai _ _ _ (@aq _ _ _ _ (@aN _ _ _ _ _ (@aa _ _ _ _ _ aU (@aa _ _ _ _ _ (@au _ _ _ _ _ _ _ av (pv 2) ag (λ_ _=>rfl)) (@aa _ _ _ _ _ (@au _ _ _ _ _ _ _ av (pv 2) ag (λ_ _=>rfl)) (@aa _ _ _ _ _ (ao cLSpoilt hr (xg _) rfl (@aa _ _ _ _ _ (pv 0) (@aa _ _ _ _ _ (pv 1) (@aa _ _ _ _ _ (@au _ _ _ _ _ _ _ av (pv 2) ag (λ_ _=>rfl)) af rfl) rfl) rfl)) af rfl) rfl) rfl) rfl)))))))))),?_⟩
 obtain ⟨tt,e1,e2⟩:=W.at'
 have b0:=Bu.refl hp
 cases tr with
 | ring Z =>
  obtain ⟨z,ea,ez,lz⟩:=tr0
  refine ⟨_,rfl,a,_,0,_,rfl,rfl,SqT.of ea,rfl,rfl,_,rfl,?_⟩
  rw[decide_eq_true (rfl:V.str "round" = V.str "round")]
  refine aS ⟨_,rfl,az.mpr ⟨p,3,rfl,hp,aF (by decide) (by decide),λd H1 d0 d1 b1=>⟨rfl,_,rfl,bR (λc =>?_) λc =>?_⟩⟩⟩
  ·refine ⟨_,rfl,a,_,1,_,rfl,rfl,SqT.of (b1.tup hp ea),rfl,(by show 2<=xf;decide),λo1 ho1=>⟨(by show 1<=xf;decide),λo2 ho2=>⟨(by show 2<=xf;decide),λo3 ho3 =>?_⟩⟩⟩
   have s1:=ab ho1 (.tup [.ref z,.int 1])
   have s2:=ab ho2 (.lst [.ref o1])
   have s3:=ab ho3 (.tup [.str "shares",.ref o2])
   refine q o3 (.rows [(Z,1)]) _ (((b1.same s1).same s2).same s3) ⟨o2,ae,[(o1,z,Z,1)],s3 _ _ ae,λu hu =>?_,rfl,by show 1<=200;decide⟩
   rw[xo.mp hu]
   exact ⟨s3 _ _ (s2 _ _ ae),s3 _ _ (s2 _ _ (s1 _ _ (b1.tup hp ez))),lz⟩
  ·exact ⟨_,rfl,_,rfl,a,_,1,_,rfl,rfl,SqT.of (b1.tup hp ea),rfl,dv.mpr ⟨p,z,Z,rfl,b1.pot,b1.tup hp ez,ne.1,ne.2,λob Y H2 b2 eY lY=>⟨(by show 2<=xf;decide),λo ho=>q o (.ring Y) _ ((b1.trans b2).same (ab ho _)) ⟨ob,ae,(ab ho _) _ _ eY,lY⟩⟩⟩⟩
 | rows rs =>
  obtain ⟨l,ea,R⟩:=tr0
  refine ⟨_,rfl,a,_,0,_,rfl,rfl,SqT.of ea,rfl,rfl,_,rfl,?_⟩
  rw[decide_eq_false (λz=>oX (V.str.inj z))]
  refine aT ⟨_,rfl,a,_,0,_,rfl,rfl,SqT.of ea,rfl,rfl,_,rfl,?_⟩
  rw[decide_eq_true (rfl:V.str "shares" = V.str "shares")]
  refine aS ⟨_,rfl,a,_,1,_,rfl,rfl,SqT.of ea,rfl,(by show 0<=xf;decide),λz1 hz1 =>?_⟩
  have g1:=ab hz1 (.lst [])
  have b1:=b0.same g1
  obtain ⟨us,el,tu,ers,lus⟩:=id R
  have el:H l=some (.lst (us.map λu =>.ref u.1)):=el
  have nl:=jw hp el
  refine ⟨l,z1,_,rfl,rfl,g1 _ _ el,ae,λc=>⟨_,rfl,aT (aT ?_)⟩,λc=>⟨_,rfl,aS ?_⟩⟩
  ·exact ⟨_,rfl,_,rfl,a,_,1,_,rfl,rfl,SqT.of (b1.tup hp ea),rfl,fE.mpr ⟨p,l,rs,rfl,b1.pot,R.bu b1 hp,ne.1,ne.2,λl' rs' H9 b9 R9=>⟨(by show 2<=xf;decide),λo ho=>q o (.rows rs') _ ((b1.trans b9).same (ab ho _)) ⟨l',ae,R9.same (ab ho _)⟩⟩⟩⟩
  refine ⟨_,rfl,az.mpr ⟨p,6,rfl,b1.pot,aF (by decide) (by decide),λd H2 d0 d1 b2'=>⟨rfl,_,rfl,bR (λc2 =>?_) λc2 =>?_⟩⟩⟩
  ·have b2:=b1.trans b2'
   match us,tu,el,c with
   | u :: us',tu,el,_ =>
    obtain ⟨h1,h2,h3⟩:=tu u xN
    have a0:atI ((u :: us').map λu=>V.ref u.1) 0=some (.ref u.1):=fu (j:=0) rfl
    exact ⟨_,rfl,a,_,1,_,rfl,rfl,SqT.of (b2.tup hp ea),rfl,l,_,0,_,rfl,rfl,SqL.of (b2.st _ _ nl el),a0,u.1,_,0,_,rfl,rfl,SqT.of (b2.tup hp h1),rfl,(by show 2<=xf;decide),λo ho=>q o (.ring u.2.2.1) _ (b2.same (ab ho _)) ⟨u.2.1,ae,(ab ho _) _ _ (b2.tup hp h2),h3⟩⟩
  ·have b2:=b1.trans b2'
   exact ⟨_,rfl,_,rfl,a,_,1,_,rfl,rfl,SqT.of (b2.tup hp ea),rfl,fE.mpr ⟨p,l,rs,rfl,b2.pot,R.bu b2 hp,ne.1,ne.2,λl' rs' H9 b9 R9=>⟨(by show 2<=xf;decide),λo ho=>q o (.rows rs') _ ((b2.trans b9).same (ab ho _)) ⟨l',ae,R9.same (ab ho _)⟩⟩⟩⟩
 | part v x y =>
  obtain ⟨n',i1,i2,rfl,ea,hx,hy⟩:=tr0
  refine ⟨_,rfl,a,_,0,_,rfl,rfl,SqT.of ea,rfl,rfl,_,rfl,?_⟩
  rw[decide_eq_false (λz=>oY (V.str.inj z))]
  refine aT ⟨_,rfl,a,_,0,_,rfl,rfl,SqT.of ea,rfl,rfl,_,rfl,?_⟩
  rw[decide_eq_false (λz=>oZ (V.str.inj z))]
  refine aT ⟨_,rfl,az.mpr ⟨p,6,rfl,hp,aF (by decide) (by decide),λd H1 d0 d1 b1 =>?_⟩⟩
  have ea1:=b1.tup hp ea
  have hx1:=hx.bu b1 hp
  have hy1:=hy.bu b1 hp
  refine ⟨_,rfl,rfl,_,rfl,bR (λc =>?_) λc =>?_⟩
  ·exact ⟨_,rfl,a,_,1,_,rfl,rfl,SqT.of ea1,rfl,_,rfl,a,_,3,_,rfl,rfl,SqT.of ea1,rfl,_,rfl,a,_,2,_,rfl,rfl,SqT.of ea1,rfl,(by show 4<=xf;decide),λo ho=>q o (.part v y x) _ (b1.same (ab ho _)) ⟨n',i2,i1,rfl,ae,hy1.same (ab ho _),hx1.same (ab ho _)⟩⟩
  refine ⟨_,rfl,rfl,_,rfl,bR (λc =>?_) λc =>?_⟩
  ·refine ⟨_,rfl,_,rfl,r,_,0,_,rfl,rfl,SqT.of (b1.tup hp e1),rfl,_,_,rfl,rfl,az.mpr ⟨p,(m:Int)+2,rfl,b1.pot,aF (by lia) (by lia),λd' H2 f0 f1 b2=>⟨_,_,rfl,rfl,?_⟩⟩⟩
   have b12:=b1.trans b2
   have ea2:=b12.tup hp ea
   exact ⟨_,rfl,a,_,2,_,rfl,rfl,SqT.of ea2,rfl,_,rfl,a,_,3,_,rfl,rfl,SqT.of ea2,rfl,(by show 4<=xf;decide),λo ho=>q o (.part (d'-1) x y) _ (b12.same (ab ho _)) ⟨n',i1,i2,rfl,ae,(hx.bu b12 hp).same (ab ho _),(hy.bu b12 hp).same (ab ho _)⟩⟩
  refine ⟨_,rfl,_,_,rfl,rfl,_,rfl,bR (λc =>?_) λc =>?_⟩
  ·refine ⟨_,rfl,a,_,1,_,rfl,rfl,SqT.of ea1,rfl,_,rfl,_,rfl,_,rfl,a,_,2,_,rfl,rfl,SqT.of ea1,rfl,cJ.mpr ⟨p,r,i1,m,ts,x,rfl,b1.pot,W.bu b1 hp,m4,hx1,ne.1,λa2 tr2 H2 b2 h2 =>?_⟩⟩
   have b12:=b1.trans b2
   exact ⟨_,rfl,a,_,3,_,rfl,rfl,SqT.of (b12.tup hp ea),rfl,(by show 4<=xf;decide),λo ho=>q o (.part v tr2 y) _ (b12.same (ab ho _)) ⟨n',a2,i2,rfl,ae,h2.same (ab ho _),(hy.bu b12 hp).same (ab ho _)⟩⟩
  ·refine ⟨_,rfl,a,_,1,_,rfl,rfl,SqT.of ea1,rfl,_,rfl,a,_,2,_,rfl,rfl,SqT.of ea1,rfl,_,rfl,_,rfl,_,rfl,a,_,3,_,rfl,rfl,SqT.of ea1,rfl,cJ.mpr ⟨p,r,i2,m,ts,y,rfl,b1.pot,W.bu b1 hp,m4,hy1,ne.2,λa2 tr2 H2 b2 h2 =>?_⟩⟩
   have b12:=b1.trans b2
   exact ⟨(by show 4<=xf;decide),λo ho=>q o (.part v x tr2) _ (b12.same (ab ho _)) ⟨n',i1,a2,rfl,ae,(hx.bu b12 hp).same (ab ho _),h2.same (ab ho _)⟩⟩
end
@[irreducible] def jx:Nat->Sp
 | 0=>λ_ _ _ _=>False
 | n+1=>λvs H Q _=>∃(a:Addr) (tr:Tr),vs=[.ref a]/\bJ true H n a tr/\∀(a':Addr) (H':Hp),aK H H'->bJ false H' n a' tr->Q (.ref a') H'
theorem cU {n:Nat}{vs:List V}{H:Hp}{Q:VK}{E:XK}:jx (n+1) vs H Q E↔∃(a:Addr) (tr:Tr),vs=[.ref a]/\bJ true H n a tr/\∀(a':Addr) (H':Hp),aK H H'->bJ false H' n a' tr->Q (.ref a') H':=by
 unfold jx
 exact zt
theorem sJ {vs:List V}{H:Hp}{Q:VK}{E:XK}:¬ jx 0 vs H Q E:=by
 unfold jx
 exact id
section
variable  {P:xA}{w:xQ}{K:wY}{mg:Str->Option xb}{base:Heap}{f T:Addr}{fd:yd}
theorem qN:aQ ["tree"] ["tree"] (aB jj):=⟨rfl,rfl,rfl,by decide +kernel,rfl,by decide +kernel,by decide +kernel⟩
theorem qO (F:Fun K "_law_tupled" "_law_tupled" jj f fd)(B:Blt mg)(n:Nat)(cLTupled:Cal P w K mg base (0+n) "_law_tupled" ["tree"] (jx n)):bG P w K mg base CX0 (0+n+1) f fd ["tree"] (jx (n+1)):=by
 refine F.ok qN (λvs H Q E h =>?_) (λcdv A outer s H vs Q E hr h =>?_)
 ·obtain ⟨_,_,rfl,_⟩:=cU.mp h
  rfl
 obtain ⟨a,tr,rfl,tr0,q⟩:=cU.mp h
 refine ⟨_,(@ah _ _ _ _ _ (@aO _ _ _ _ _ _ _ _ (aj bE (@au _ _ _ _ _ _ _ av (pv 0) ag (λ_ _=>rfl)) aU (ay _)) (@ai _ _ _ (@aq _ _ _ _ (@aN _ _ _ _ _ (@aa _ _ _ _ _ aU (@aa _ _ _ _ _ (bb bZ rfl B.b_tuple de (@aa _ _ _ _ _ (@au _ _ _ _ _ _ _ av (pv 0) ag (λ_ _=>rfl)) af rfl)) af rfl) rfl)))) ax)
  (@ah _ _ _ _ _ (@aO _ _ _ _ _ _ _ _ (aj bE (@au _ _ _ _ _ _ _ av (pv 0) ag (λ_ _=>rfl)) aU (ay _)) (@ai _ _ _ (@aq _ _ _ _ (@aN _ _ _ _ _ (@aa _ _ _ _ _ aU (@aa _ _ _ _ _ (@au _ _ _ _ _ _ _ av (pv 0) ag (λ_ _=>rfl)) (@aa _ _ _ _ _ (ao cLTupled hr (xg _) rfl (@aa _ _ _ _ _ (@au _ _ _ _ _ _ _ av (pv 0) ag (λ_ _=>rfl)) af rfl)) (@aa _ _ _ _ _ (ao cLTupled hr (xg _) rfl (@aa _ _ _ _ _ (@au _ _ _ _ _ _ _ av (pv 0) ag (λ_ _=>rfl)) af rfl)) af rfl) rfl) rfl) rfl)))) ax)
  (@ai _ _ _ (@aq _ _ _ _ (pv 0))))),?_⟩
 cases tr with
 | ring Z =>
  obtain ⟨z,ea,ez,lz⟩:=tr0
  refine ⟨_,rfl,a,_,0,_,rfl,rfl,SqT.of ea,rfl,rfl,_,rfl,?_⟩
  rw[decide_eq_false (λz=>oX (V.str.inj z).symm)]
  refine aT ⟨_,rfl,a,_,0,_,rfl,rfl,SqT.of ea,rfl,rfl,_,rfl,?_⟩
  rw[decide_eq_false (λz=>oY (V.str.inj z).symm)]
  exact aT ⟨_,rfl,q a _ (aK.refl _) ⟨z,ea,ez,lz⟩⟩
 | rows rs =>
  obtain ⟨l,ea,us,el,tu,ers,lus⟩:=tr0
  have el:H l=some (.lst (us.map λu =>.ref u.1)):=el
  refine ⟨_,rfl,a,_,0,_,rfl,rfl,SqT.of ea,rfl,rfl,_,rfl,?_⟩
  rw[decide_eq_true (rfl:V.str "shares" = V.str "shares")]
  refine aS ⟨_,rfl,a,_,1,_,rfl,rfl,SqT.of ea,rfl,l,_,rfl,.inl ⟨SqL.of el,λo1 ho1=>⟨(by show 2<=xf;decide),λo2 ho2 =>?_⟩⟩⟩
  have s1:=ab ho1 (.tup (us.map λu=>V.ref u.1))
  have s2:=ab ho2 (.tup [.str "shares",.ref o1])
  exact q o2 _ (s1.trans s2) ⟨o1,ae,us,s2 _ _ ae,λu hu=>⟨s2 _ _ (s1 _ _ (tu u hu).1),s2 _ _ (s1 _ _ (tu u hu).2.1),(tu u hu).2.2⟩,ers,lus⟩
 | part v x y =>
  obtain ⟨n',i1,i2,rfl,ea,hx,hy⟩:=tr0
  refine ⟨_,rfl,a,_,0,_,rfl,rfl,SqT.of ea,rfl,rfl,_,rfl,?_⟩
  rw[decide_eq_false (λz=>oZ (V.str.inj z))]
  refine aT ⟨_,rfl,a,_,0,_,rfl,rfl,SqT.of ea,rfl,rfl,_,rfl,?_⟩
  rw[decide_eq_true (rfl:V.str "part" = V.str "part")]
  refine aS ⟨_,rfl,a,_,1,_,rfl,rfl,SqT.of ea,rfl,_,rfl,a,_,2,_,rfl,rfl,SqT.of ea,rfl,cU.mpr ⟨i1,x,rfl,hx,λa1 H1 s1 h1 =>?_⟩⟩
  refine ⟨_,rfl,a,_,3,_,rfl,rfl,SqT.of (s1 _ _ ea),rfl,cU.mpr ⟨i2,y,rfl,hy.same s1,λa2 H2 s2 h2=>⟨(by show 4<=xf;decide),λo ho=>q o _ (s1.trans (s2.trans (ab ho _))) ⟨n',a1,a2,rfl,ae,(h1.same s2).same (ab ho _),h2.same (ab ho _)⟩⟩⟩⟩
end
open PySem L2
abbrev pG:Sp:=λvs H Q _=>∃(p:Addr),vs=[.ref p]/\Pt 1 H p/\∀(o r wa a:Addr) (m:Nat) (ts:List (Addr×List Int)) (ws:List Int) (tr:Tr) (H':Hp),Bu 1 p H H'->H' o=some (.tup [.ref r,.ref wa,.ref a])->Wb H' r m ts->m<=40->H' wa=some (.lst (ws.map V.int))->ws.length=m->bJ true H' 40 a tr->Q (.ref o) H'
@[irreducible] def lD:Sp:=pG
theorem gg {vs:List V}{H:Hp}{Q:VK}{E:XK}:lD vs H Q E↔pG vs H Q E:=by
 delta lD
 exact zt
section
variable  {P:xA}{w:xQ}{K:wY}{mg:Str->Option xb}{base:Heap}{f T:Addr}{fd:yd}
theorem cw:aQ ["pot", "many", "web", "weights", "begin", "order", "at", "tree", "place"] ["pot"] (aB nX):=⟨rfl,rfl,rfl,by decide +kernel,rfl,by decide +kernel,by decide +kernel⟩
theorem jy:(["k", "many"]:List Str).Nodup:=by decide +kernel
theorem jP:(["k", "pot"]:List Str).Nodup:=by decide +kernel
theorem fq:(["k", "begin", "many"]:List Str).Nodup:=by decide +kernel
theorem uC (F:Fun K "_law_deep" "_law_deep" nX f fd)(B:Blt mg)(cLTake:Cal P w K mg base 1 "_law_take" ["pot", "many"] cB):bG P w K mg base CX0 2 f fd ["pot"] lD:=by
 refine F.ok cw (λvs H Q E h =>?_) (λcdv A outer s H vs Q E hr h =>?_)
 ·obtain ⟨_,rfl,_⟩:=gg.mp h
  rfl
 obtain ⟨p,rfl,hp,q⟩:=gg.mp h
 refine ⟨_,(@ah _ _ _ _ _ (@aH _ _ 1 _ _ _ _ cw.nd rfl (Or.inr rfl) (@aE _ _ _ _ _ _ _ _ bh ag (ao cLTake hr (by decide) rfl (@aa _ _ _ _ _ (pv 0) (@aa _ _ _ _ _ ag af rfl) rfl))) rfl (by first | exact .inl rfl | exact .inr rfl | assumption))
  (@ah _ _ _ _ _ (@aH _ _ 2 _ _ _ _ cw.nd rfl (Or.inl rfl) (@aN _ _ _ _ _ (@aa _ _ _ _ _ (pv 1) (@aa _ _ _ _ _ (bb bZ rfl B.b_tuple de (@aa _ _ _ _ _ (aA kO rfl B.b_sorted ko (@aa _ _ _ _ _ (bj ["k", "many"] [none,some 1] rfl (bA rfl B.b_range (@aa _ _ _ _ _ (pv 1) af rfl)) rfl (λ_ _ _ _ _=>(aD (i:=0) jy rfl (Or.inl rfl))) (λ_ _ _ _ _=>bF) (λ_ _ _ _ _=>(@aN _ _ _ _ _ (@aa _ _ _ _ _ (pv 0) (@aa _ _ _ _ _ (@aE _ _ _ _ _ _ _ _ eQ (@aE _ _ _ _ _ _ _ _ bh (pv 0) ag) (pv 1)) af rfl) rfl)))) af rfl)) af rfl)) af rfl) rfl)) rfl (by first | exact .inl rfl | exact .inr rfl | assumption))
  (@ah _ _ _ _ _ (cz (i:=3) ["k", "pot"] [none,some 0] rfl cw.nd rfl rfl (bA rfl B.b_range (@aa _ _ _ _ _ (pv 1) af rfl)) rfl (λ_ _ _ _ _=>(aD (i:=0) jP rfl (Or.inl rfl))) (λ_ _ _ _ _=>bF) (λ_ _ _ _ _=>(@aE _ _ _ _ _ _ _ _ bh ag (ao cLTake hr (by decide) rfl (@aa _ _ _ _ _ (pv 1) (@aa _ _ _ _ _ ag af rfl) rfl)))))
  (@ah _ _ _ _ _ (@aH _ _ 4 _ _ _ _ cw.nd rfl (Or.inr rfl) (ao cLTake hr (by decide) rfl (@aa _ _ _ _ _ (pv 0) (@aa _ _ _ _ _ (pv 1) af rfl) rfl)) rfl (by first | exact .inl rfl | exact .inr rfl | assumption))
  (@ah _ _ _ _ _ (cz (i:=5) ["k", "begin", "many"] [none,some 4,some 1] rfl cw.nd rfl rfl (bA rfl B.b_range (@aa _ _ _ _ _ (pv 1) af rfl)) rfl (λ_ _ _ _ _=>(aD (i:=0) fq rfl (Or.inl rfl))) (λ_ _ _ _ _=>bF) (λ_ _ _ _ _=>(@aE _ _ _ _ _ _ _ _ eQ (@aE _ _ _ _ _ _ _ _ bh (pv 1) (pv 0)) (pv 2))))
  (@ah _ _ _ _ _ (@aH _ _ 6 _ _ _ _ cw.nd rfl (Or.inl rfl) (ao cLTake hr (by decide) rfl (@aa _ _ _ _ _ (pv 0) (@aa _ _ _ _ _ (@aE _ _ _ _ _ _ _ _ gK ag (pv 1)) af rfl) rfl)) rfl (by first | exact .inl rfl | exact .inr rfl | assumption))
  (@ah _ _ _ _ _ (@aO _ _ _ _ _ _ _ _ (aj gj (pv 6) (pv 1) (ay _)) (@ai _ _ _ (@iP _ _ _ _ _ _ (@au _ _ _ _ _ _ _ bD (pv 5) ag (λ_ _=>rfl)) (mT (pv 5) (pv 6) set_list) rfl rfl rfl)) ax)
  (@ah _ _ _ _ _ (@aH _ _ 7 _ _ _ _ cw.nd rfl (Or.inl rfl) (@aN _ _ _ _ _ (@aa _ _ _ _ _ aU (@aa _ _ _ _ _ (bb (ml hr.hd) rfl B.b_tuple de (@aa _ _ _ _ _ (bb ip rfl B.b_range mC (@aa _ _ _ _ _ (pv 1) af rfl)) af rfl)) af rfl) rfl)) rfl (by first | exact .inl rfl | exact .inr rfl | assumption))
  (@ah _ _ _ _ _ (@aO _ _ _ _ _ _ _ _ (aj bE (ao cLTake hr (by decide) rfl (@aa _ _ _ _ _ (pv 0) (@aa _ _ _ _ _ ag af rfl) rfl)) ag (ay _)) (@ai _ _ _ (@aH _ _ 7 _ _ _ _ cw.nd rfl (Or.inl rfl) (@aN _ _ _ _ _ (@aa _ _ _ _ _ aU (@aa _ _ _ _ _ (@aI _ _ _ _ af) af rfl) rfl)) rfl (by first | exact .inl rfl | exact .inr rfl | assumption))) ax)
  (@ah _ _ _ _ _ (@cy _ _ _ _ _ _ _ _ yD rfl (vM rfl B.b_reversed (pv 5)) (aD (i:=8) cw.nd rfl (Or.inl rfl))
   (@ai _ _ _ (@aH _ _ 7 _ _ _ _ cw.nd rfl (Or.inl rfl) (@aN _ _ _ _ _ (@aa _ _ _ _ _ aU (@aa _ _ _ _ _ (pv 8) (@aa _ _ _ _ _ (@aN _ _ _ _ _ (@aa _ _ _ _ _ aU (@aa _ _ _ _ _ (@aI _ _ _ _ af) af rfl) rfl)) (@aa _ _ _ _ _ (pv 7) af rfl) rfl) rfl) rfl)) rfl (by first | exact .inl rfl | exact .inr rfl | assumption))) (λ_=>rfl))
  (@ai _ _ _ (@aq _ _ _ _ (@aN _ _ _ _ _ (@aa _ _ _ _ _ (pv 2) (@aa _ _ _ _ _ (pv 3) (@aa _ _ _ _ _ (pv 7) af rfl) rfl) rfl)))))))))))))),?_⟩
 refine ⟨_,rfl,az.mpr ⟨p,29,rfl,hp,aF (by decide) (by decide),λd H1 d0 d1 b1=>⟨_,_,rfl,rfl,?_⟩⟩⟩
 obtain ⟨m,em⟩:∃m:Nat,12+d=m:=⟨(12+d).toNat,by lia⟩
 have m12:12<=m:=by lia
 have m40:m<=40:=by lia
 have mi:(m:Int).toNat=m:=by lia
 dsimp only
 rw[em]
 let W0:Nat->List V->Hp->Prop:=λi ys H'=>aK H1 H'/\∃us:List (Addr×List Int),ys=us.map (λu =>.ref u.1)/\Tus H' us/\(∀u∈us,∃a b:Int,u.2=[a,b]/\0<=a/\a<m/\0<=b/\b<m)/\us.length=i
 refine ⟨_,rfl,_,rfl,(m:Int),rfl,by lia,by lia,bH W0 ⟨aK.refl _,[],rfl,(λu h=>nomatch h),(λu h=>nomatch h),rfl⟩ (aR (by lia)) ?_ ?_⟩
 ·rintro i ys H2 hi _ ⟨s2,us,rfl,tu,pu,lu⟩ R1 R0 r1 r0
  rw[CO]
  have md:(0:Int)<(m:Int):=by lia
  have x0:=Bt ((i:Int)+1) (b:=(m:Int)) (by lia)
  have x1:=AX ((i:Int)+1) (b:=(m:Int)) (by lia)
  refine aS ⟨_,rfl,_,rfl,_,_,rfl,rfl,_,rfl,_,_,rfl,rfl,md,(by show 2<=xf;decide),λt ht=>r1 _ _ ⟨s2.trans (ab ht _),us++[(t,[(i:Int),((i:Int)+1)%((m:Int))])],by rw[xq];rfl,(tu.same (ab ht _)).snoc ae,λu hu =>?_,by rw[w9,lu];rfl⟩⟩
  rcases xx.mp hu with z | z
  ·exact pu u z
  ·rw[xo.mp z]
   exact ⟨_,_,rfl,by lia,by lia,x0,x1⟩
 rintro ys H2 _ ⟨s2,us0,rfl,tu0,pu0,lu0⟩ c0 hc0
 have g3:=ab hc0 (.lst (us0.map λu=>V.ref u.1))
 refine ⟨c0,us0,rfl,.inl (SqL.of ae),λt ht=>⟨SqT.of ((tu0.same g3) t ht),λz =>?_⟩,λl2 ts hl2 pm _=>⟨l2,_,rfl,.inl ⟨SqL.of ae,λl3 hl3=>⟨(by show 2<=xf;decide),λr hr =>?_⟩⟩⟩⟩
 ·obtain ⟨a,b,e,_⟩:=pu0 t ht
  rw[e] at z;cases z
 have v1:=ab hl2 (.lst (ts.map λt=>V.ref t.1))
 have v2:=ab hl3 (.tup (ts.map λt=>V.ref t.1))
 have v3:=ab hr (.tup [.int m,.ref l3])
 have W:Wb (upd (upd (upd (upd H2 c0 (.lst (us0.map λu=>V.ref u.1))) l2 (.lst (ts.map λt=>V.ref t.1))) l3 (.tup (ts.map λt=>V.ref t.1))) r (.tup [.int m,.ref l3])) r m ts:=⟨⟨l3,ae,v3 _ _ ae⟩,λu hu=>v3 _ _ (v2 _ _ (v1 _ _ ((tu0.same g3) u (pm.mem_iff.mp hu)))),λu hu=>pu0 u (pm.mem_iff.mp hu),by rw[pm.length_eq];lia⟩
 have b3:=b1.same (s2.trans (g3.trans (v1.trans (v2.trans v3))))
 generalize upd (upd (upd (upd H2 c0 (.lst (us0.map λu=>V.ref u.1))) l2 (.lst (ts.map λt=>V.ref t.1))) l3 (.tup (ts.map λt=>V.ref t.1))) r (.tup [.int m,.ref l3])=H3 at W b3
 refine ⟨_,rfl,(m:Int),rfl,by lia,by lia,bH (λi ys H'=>Bu 1 p H3 H'/\∃ws:List Int,ys=ws.map V.int/\ws.length=i) ⟨Bu.refl b3.pot,[],rfl,rfl⟩ (aR (by lia)) ?_ ?_⟩
 ·rintro i ys H4 hi _ ⟨b4,ws,rfl,lw⟩ R1 R0 r1 r0
  refine aS ⟨_,rfl,(az (E:=E0)).mpr ⟨p,9,rfl,b4.pot,aF (by decide) (by decide),λx H5 x0 x1 b5=>⟨_,_,rfl,rfl,r1 _ _ ⟨b4.trans b5,ws++[1+x],by rw[xq];rfl,by rw[w9,lw];rfl⟩⟩⟩⟩
 rintro ys H4 _ ⟨b4,ws,rfl,lw⟩ wa hwa
 rw[mi] at lw
 have nwa:=bz b4.pot hwa
 have g5:=ab hwa (.lst (ws.map V.int))
 have b5:=(b3.trans b4).same g5
 have ew5:upd H4 wa (.lst (ws.map V.int)) wa=some (.lst (ws.map V.int)):=ae
 have W5:=(W.bu b4 b3.pot).same g5
 generalize upd H4 wa (.lst (ws.map V.int))=H5 at g5 b5 ew5 W5
 refine ⟨_,rfl,_,rfl,az.mpr ⟨p,(m:Int),rfl,b5.pot,aF (by lia) (by lia),λbg H6 f0 f1 b6' =>?_⟩⟩
 have b6:=b5.trans b6'
 have ew6:=b6'.st _ _ nwa ew5
 have W6:=W5.bu b6' b5.pot
 refine ⟨_,rfl,(m:Int),rfl,by lia,by lia,bH (λi ys H'=>H'=H6/\∃O:List Int,ys=O.map V.int/\O.length=i) ⟨rfl,[],rfl,rfl⟩ (aR (by lia)) ?_ ?_⟩
 ·rintro i ys H7 hi _ ⟨rfl,O,rfl,lO⟩ R1 R0 r1 r0
  refine aS ⟨_,rfl,_,rfl,_,_,rfl,rfl,_,rfl,_,_,rfl,rfl,(by show (0:Int)<m;lia),r1 _ _ ⟨rfl,O++[_],by rw[xq];rfl,by rw[w9,lO];rfl⟩⟩
 rintro ys H7 _ ⟨rfl,O0,rfl,lO0⟩ oa hoa
 rw[mi] at lO0
 have noa:=bz b6.pot hoa
 have hoa0:=sD b6 hoa noa
 have now:oa≠wa:=λz=>by rw[z,ew6] at hoa;cases hoa
 have g8:=ab hoa (.lst (O0.map V.int))
 have b8:=b6.same g8
 have ew8:=g8 _ _ ew6
 have W8:=W6.same g8
 have eo8:upd H7 oa (.lst (O0.map V.int)) oa=some (.lst (O0.map V.int)):=ae
 generalize upd H7 oa (.lst (O0.map V.int))=H8 at g8 b8 ew8 W8 eo8
 refine ⟨_,rfl,_,rfl,_,_,rfl,rfl,.inl ⟨by decide,by decide⟩,az.mpr ⟨p,2*(m:Int),rfl,b8.pot,aF (by lia) (by lia),λat' H9 k0 k1 b9' =>?_⟩⟩
 have b9:=b8.trans b9'
 have ew9:=b9'.st _ _ nwa ew8
 have W9:=W8.bu b9' b8.pot
 have eo9:=b9'.st _ _ noa eo8
 refine ⟨_,rfl,_,rfl,_,_,rfl,rfl,_,rfl,hW (λσ H'=>σ=[some (.ref p),some (.int m),some (.ref r),some (.ref wa),some (.int bg),some (.ref oa),some (.int at'),none,none]/\Bu 1 p H H'/\H' wa=some (.lst (ws.map V.int))/\Wb H' r m ts/\∃O:List Int,H' oa=some (.lst (O.map V.int))/\O.length=m) ?_ (λhP z =>?_) λz=>⟨rfl,b9,ew9,W9,O0,eo9,lO0⟩⟩
 case refine_2 =>
  have za:at'<m:=of_decide_eq_true z
  obtain ⟨n,rfl⟩:∃n:Nat,at'=n:=⟨at'.toNat,by lia⟩
  refine ⟨_,rfl,oa,_,0,_,rfl,rfl,SqL.of eo9,jL (n:=0) (by lia),_,rfl,_,rfl,oa,_,(n:Int),n,rfl,rfl,eo9,(by unfold ixN;rw[if_pos (by lia),if_pos (by rw[wW];lia)];rfl),hP _ _ ⟨rfl,b9.fc hoa0 noa _,by rw[aG now.symm];exact ew9,W9.tp λc u h=>by rw[aG (jR h eo9 nofun)];exact h,O0.set n (O0.getD 0 0),by rw[ae,DM],by rw[Bq];exact lO0⟩⟩
 rintro σ H10 ⟨rfl,b10,ew10,W10,O,eo10,lO⟩
 refine ⟨_,rfl,(m:Int),rfl,λg1 hg1 =>?_⟩
 have s11:=ab hg1 (.rng 0 m)
 refine ⟨g1,m,rfl,ae,by lia,λl1 hl1=>⟨(by show 2<=xf;decide),λo1 ho1 =>?_⟩⟩
 have s12:=s11.trans ((ab hl1 (.tup ((yj m).map λi=>V.int (i:Nat)))).trans (ab ho1 (.tup [.str "round",.ref l1])))
 have it12:bJ true (upd (upd (upd H10 g1 (.rng 0 m)) l1 (.tup ((yj m).map λi=>V.int (i:Nat)))) o1 (.tup [.str "round",.ref l1])) 0 o1 (.ring (rgI m)):=⟨l1,ae,by rw[(ab ho1 (.tup [.str "round",.ref l1])) _ _ ae,rgI,BK];rfl,by rw[rgI,wW,y9];lia⟩
 have b12:=b10.same s12
 have ew12:=s12 _ _ ew10
 have W12:=W10.same s12
 have eo12:=s12 _ _ eo10
 generalize upd (upd (upd H10 g1 (.rng 0 m)) l1 (.tup ((yj m).map λi=>V.int (i:Nat)))) o1 (.tup [.str "round",.ref l1])=H12 at s12 it12 b12 ew12 W12 eo12
 refine ⟨_,rfl,az.mpr ⟨p,3,rfl,b12.pot,aF (by decide) (by decide),λd3 H13 u0 u1 b13'=>⟨rfl,_,rfl,?_⟩⟩⟩
 have b13:=b12.trans b13'
 have ew13:=b13'.st _ _ nwa ew12
 have W13:=W12.bu b13' b12.pot
 have eo13:=b13'.st _ _ noa eo12
 have it13:=it12.bu b13' b12.pot
 refine hW (λσ H'=>∃(a:Addr) (tr:Tr),σ=[some (.ref p),some (.int m),some (.ref r),some (.ref wa),some (.int bg),some (.ref oa),some (.int at'),some (.ref a),none]/\Bu 1 p H H'/\H' wa=some (.lst (ws.map V.int))/\Wb H' r m ts/\H' oa=some (.lst (O.map V.int))/\bJ true H' 0 a tr) ?_ (λhP z =>?_) λz=>⟨_,_,rfl,b13,ew13,W13,eo13,it13⟩
 case refine_2 =>
  refine ⟨(by show 0<=xf;decide),λl4 hl4=>⟨(by show 2<=xf;decide),λo4 ho4 =>?_⟩⟩
  have s14:=(ab hl4 (.lst [])).trans (ab ho4 (.tup [.str "shares",.ref l4]))
  exact hP _ _ ⟨o4,.rows [],rfl,b13.same s14,s14 _ _ ew13,W13.same s14,s14 _ _ eo13,l4,ae,[],(ab ho4 _) _ _ ae,(λu h=>nomatch h),rfl,by decide⟩
 rintro σ H14 ⟨a0,tr0,rfl,b14,ew14,W14,eo14,it14⟩
 refine ⟨_,rfl,oa,_,rfl,SqL.of eo14,t9 (xs:=O.map V.int) (λi σ H'=>∃(a:Addr) (tr:Tr),(∃c8,σ=[some (.ref p),some (.int m),some (.ref r),some (.ref wa),some (.int bg),some (.ref oa),some (.int at'),some (.ref a),c8])/\aK H14 H'/\bJ true H' i a tr) ⟨a0,tr0,⟨_,rfl⟩,aK.refl _,it14⟩ (λi σ H' _ h=>by obtain ⟨_,_,_,s',_⟩:=h;exact SqL.of (s' _ _ eo14)) ?_ ?_⟩
 ·rintro i x σ H15 hx ⟨a,tr,⟨c8,rfl⟩,s15,it15⟩
  rw[<- D0] at hx
  obtain ⟨v,ev,rfl⟩:=iw hx
  refine ⟨_,rfl,(by show 0<=xf;decide),λl6 hl6=>⟨(by show 2<=xf;decide),λo6 ho6=>⟨_,rfl,(by show 4<=xf;decide),λo7 ho7 =>?_⟩⟩⟩
  have t1:=ab hl6 (.lst [])
  have t2:=ab ho6 (.tup [.str "shares",.ref l6])
  have t3:=ab ho7 (.tup [.str "part",.int v,.ref o6,.ref a])
  exact ⟨o7,.part v (.rows []) tr,⟨_,rfl⟩,s15.trans (t1.trans (t2.trans t3)),i,o6,a,rfl,ae,⟨l6,t3 _ _ ae,[],t3 _ _ (t2 _ _ ae),(λu h=>nomatch h),rfl,by decide⟩,((it15.same t1).same t2).same t3⟩
 ·rintro σ H15 ⟨a,tr,⟨c8,rfl⟩,s15,it15⟩
  rw[wW,lO] at it15
  exact ⟨_,rfl,_,rfl,_,rfl,(by show 3<=xf;decide),λo8 ho8=>q o8 r wa a m ts ws tr _ ((b14.same s15).same (ab ho8 _)) ae ((W14.same s15).same (ab ho8 _)) m40 ((ab ho8 _) _ _ (s15 _ _ ew14)) lw ((it15.mono m40).same (ab ho8 _))⟩
end
open PySem L2
def mP (K:wY):Sp:=λvs H Q _=>∃(a:Addr) (ns:List Int),vs=[.ref a]/\SqL K H a (ns.map V.int)/\ns.length<=63/\∀H',Q (.bl true) H'
theorem kB {K:wY}{vs:List V}{H:Hp}{Q:VK}{E:XK}:mP K vs H Q E↔∃(a:Addr) (ns:List Int),vs=[.ref a]/\SqL K H a (ns.map V.int)/\ns.length<=63/\∀H',Q (.bl true) H':=zt
theorem jz {K:wY}{H:Hp}{n:Nat}:∀ns:List Int,Paired (EqS K H n) (ns.map V.int) (ns.map V.int)
 | [] =>.nil
 | i :: ns =>.cons (iK i) (jz ns)
theorem fF {K:wY}{H:Hp}{n:Nat}{a b:Addr}{xs ys:List V}(ha:H a=some (.tup xs))(hb:H b=some (.tup ys))(p:Paired (EqS K H n) xs ys):EqS K H (n+1) (.ref a) (.ref b) :=.inr (.inr (.inr ⟨a,b,xs,ys,rfl,rfl,.inl ⟨SqT.of ha,SqT.of hb⟩,p⟩))
theorem lE {K:wY}{H:Hp}{n:Nat}:∀x:Option MnR.Rs,Paired (EqS K H n) (itL x) (itL x)
 | none =>.nil
 | some none =>.cons (du _) .nil
 | some (some i) =>.cons (du _) (.cons (iK i) .nil)
theorem mQ {K:wY}{H:Hp}{n:Nat}:∀{us vs:List RU},us.map (·.2.2)=vs.map (·.2.2)->(∀u∈us,bq H u)->(∀u∈vs,bq H u)->Paired (EqS K H (n+2)) (us.map λu=>V.ref u.1) (vs.map λu=>V.ref u.1)
 | [],[],_,_,_ =>.nil
 | [],_ :: _,e,_,_=>by cases e
 | _ :: _,[],e,_,_=>by cases e
 | u :: us,v :: vs,e,h1,h2=>by
  rw[xJ,xJ] at e
  injection e with e1 e2
  obtain ⟨a1,a2,a3⟩:=h1 u xN
  obtain ⟨c1,c2,c3⟩:=h2 v xN
  rw[<- e1] at c1 c2
  exact .cons (fF a1 c1 (.cons (fF a2 c2 (jz _)) (.cons (iK _) .nil))) (mQ e2 (λw hw=>h1 w (xR _ hw)) λw hw=>h2 w (xR _ hw))
theorem vT {K:wY}{H:Hp}(d:Nat):∀{t:Tr} {n:Nat} {a b:Addr},bJ false H n a t->bJ false H n b t->∃xs ys,H a=some (.tup xs)/\H b=some (.tup ys)/\Paired (EqS K H (d+n+3)) xs ys
 | .ring Z,n,a,b,h1,h2=>by
  obtain ⟨p,e1,e2,_⟩:=h1
  obtain ⟨q,f1,f2,_⟩:=h2
  exact ⟨_,_,e1,f1,.cons (du _) (.cons (fF e2 f2 (jz _)) .nil)⟩
 | .rows rs,n,a,b,h1,h2=>by
  obtain ⟨p,e1,us,e2,tu,eu,_⟩:=h1
  obtain ⟨q,f1,vs,f2,tv,ev,_⟩:=h2
  exact ⟨_,_,e1,f1,.cons (du _) (.cons (fF e2 f2 (mQ (eu.trans ev.symm) tu tv)) .nil)⟩
 | .part v x y,n,a,b,h1,h2=>by
  obtain ⟨k,p,p',rfl,e1,hx,hy⟩:=h1
  obtain ⟨k',q,q',ek,f1,gx,gy⟩:=h2
  cases ek
  obtain ⟨xs,ys,a1,a2,a3⟩:=vT (K:=K) d hx gx
  obtain ⟨zs,ws,c1,c2,c3⟩:=vT (K:=K) d hy gy
  exact ⟨_,_,e1,f1,.cons (du _) (.cons (iK _) (.cons (fF a1 a2 a3) (.cons (fF c1 c2 c3) .nil)))⟩
section
variable  {P:xA}{w:xQ}{K:wY}{mg:Str->Option xb}{base:Heap}{f T:Addr}{fd:yd}
theorem dw:aQ ["script", "web", "weights", "tree", "cell", "pot", "kept", "rings", "handed", "due", "copied"] ["script"] (aB qy):=⟨rfl,rfl,rfl,by decide +kernel,rfl,by decide +kernel,by decide +kernel⟩
theorem wV (F:Fun K "law" "law" qy f fd)(B:Blt mg)(cLDeep:Cal P w K mg base 2 "_law_deep" ["pot"] lD)(cLTold:Cal P w K mg base 2 "_law_told" ["found"] lC)(cLShows:Cal P w K mg base 49 "_law_shows" ["web", "weights", "taken", "kept", "tree"] (og 46))(cLWeb:Cal P w K mg base 2 "_law_web" ["pot", "most"] pA)(cLWeights:Cal P w K mg base 2 "_law_weights" ["pot", "many"] fD)(cLKept:Cal P w K mg base 2 "_law_kept" ["pot", "many"] iH)(cLRings:Cal P w K mg base 2 "_law_rings" ["web"] iI)(cLGood:Cal P w K mg base 7 "_law_good" ["pot", "web", "weights", "rings", "taken", "kept", "room"] (f9 5))(cLDeal:Cal P w K mg base 1 "_law_deal" ["cell", "many"] lq)(cOneShows:Cal P w K mg base 52 "one_shows" ["web", "weights", "kept", "tree"] lp)(cLTake:Cal P w K mg base 1 "_law_take" ["pot", "many"] cB)(cLSpoilt:Cal P w K mg base 8 "_law_spoilt" ["pot", "web", "tree"] (eD 5))(cLTupled:Cal P w K mg base 5 "_law_tupled" ["tree"] (jx 5)):bG P w K mg base CX0 53 f fd ["script"] (mP K):=by
 refine F.ok dw (λvs H Q E h =>?_) (λcdv A outer s H vs Q E hr h =>?_)
 ·obtain ⟨_,_,rfl,_⟩:=kB.mp h
  rfl
 obtain ⟨a,ns,rfl,hS,h63,q⟩:=kB.mp h
 refine ⟨_,(@ah _ _ _ _ _ (@iP _ _ _ _ _ _ (ao cLDeep hr (by decide) rfl (@aa _ _ _ _ _ (@aI _ _ _ _ (@aa _ _ _ _ _ (ao cLDeal hr (by decide) rfl (@aa _ _ _ _ _ (aA (qx hr.hd) rfl B.b_sum jl (@aa _ _ _ _ _ (pv 0) af rfl)) (@aa _ _ _ _ _ ag af rfl) rfl)) af rfl)) af rfl)) (iO rfl (bQ (aD (i:=1) dw.nd rfl (Or.inl rfl)) (bQ (aD (i:=2) dw.nd rfl (Or.inl rfl)) (bQ (aD (i:=3) dw.nd rfl (Or.inl rfl)) gi)))) rfl rfl rfl)
  (@ah _ _ _ _ _ (@aO _ _ _ _ _ _ _ _ (aj (kU hr) (ao cLTold hr (by decide) rfl (@aa _ _ _ _ _ (ao cOneShows hr (by decide) rfl (@aa _ _ _ _ _ (pv 1) (@aa _ _ _ _ _ (pv 2) (@aa _ _ _ _ _ (@aN _ _ _ _ _ af) (@aa _ _ _ _ _ (pv 3) af rfl) rfl) rfl) rfl)) af rfl)) (ao cLShows hr (by decide) rfl (@aa _ _ _ _ _ (pv 1) (@aa _ _ _ _ _ (pv 2) (@aa _ _ _ _ _ (@aI _ _ _ _ af) (@aa _ _ _ _ _ (@aI _ _ _ _ af) (@aa _ _ _ _ _ (pv 3) af rfl) rfl) rfl) rfl) rfl)) (ay _)) gJ ax)
  (@ah _ _ _ _ _ (@cy _ _ _ _ _ _ _ _ yD rfl (@cC _ _ _ _ (@aE _ _ _ _ _ _ _ _ bW (bC cM (pv 0) bO (bP ag)) (@aI _ _ _ _ (@aa _ _ _ _ _ ag af rfl)))) (aD (i:=4) dw.nd rfl (Or.inl rfl))
   (@ah _ _ _ _ _ (@aH _ _ 5 _ _ _ _ dw.nd rfl (Or.inl rfl) (@aI _ _ _ _ (@aa _ _ _ _ _ (ao cLDeal hr (by decide) rfl (@aa _ _ _ _ _ (pv 4) (@aa _ _ _ _ _ ag af rfl) rfl)) af rfl)) rfl (by first | exact .inl rfl | exact .inr rfl | assumption))
   (@ah _ _ _ _ _ (@aH _ _ 1 _ _ _ _ dw.nd rfl (Or.inl rfl) (ao cLWeb hr (by decide) rfl (@aa _ _ _ _ _ (pv 5) (@aa _ _ _ _ _ ag af rfl) rfl)) rfl (by first | exact .inl rfl | exact .inr rfl | assumption))
   (@ah _ _ _ _ _ (@aH _ _ 2 _ _ _ _ dw.nd rfl (Or.inl rfl) (ao cLWeights hr (by decide) rfl (@aa _ _ _ _ _ (pv 5) (@aa _ _ _ _ _ (@au _ _ _ _ _ _ _ av (pv 1) ag (λ_ _=>rfl)) af rfl) rfl)) rfl (by first | exact .inl rfl | exact .inr rfl | assumption))
   (@ah _ _ _ _ _ (@aH _ _ 6 _ _ _ _ dw.nd rfl (Or.inl rfl) (ao cLKept hr (by decide) rfl (@aa _ _ _ _ _ (pv 5) (@aa _ _ _ _ _ (@au _ _ _ _ _ _ _ av (pv 1) ag (λ_ _=>rfl)) af rfl) rfl)) rfl (by first | exact .inl rfl | exact .inr rfl | assumption))
   (@ah _ _ _ _ _ (@aH _ _ 7 _ _ _ _ dw.nd rfl (Or.inl rfl) (ao cLRings hr (by decide) rfl (@aa _ _ _ _ _ (pv 1) af rfl)) rfl (by first | exact .inl rfl | exact .inr rfl | assumption))
   (@ah _ _ _ _ _ (@aH _ _ 3 _ _ _ _ dw.nd rfl (Or.inl rfl) (ao cLGood hr (by decide) rfl (@aa _ _ _ _ _ (pv 5) (@aa _ _ _ _ _ (pv 1) (@aa _ _ _ _ _ (pv 2) (@aa _ _ _ _ _ (pv 7) (@aa _ _ _ _ _ (@aI _ _ _ _ af) (@aa _ _ _ _ _ (bb cN rfl B.b_list iD (@aa _ _ _ _ _ (pv 6) af rfl)) (@aa _ _ _ _ _ (ao cLTake hr (by decide) rfl (@aa _ _ _ _ _ (pv 5) (@aa _ _ _ _ _ ag af rfl) rfl)) af rfl) rfl) rfl) rfl) rfl) rfl) rfl)) rfl (by first | exact .inl rfl | exact .inr rfl | assumption))
   (@ai _ _ _ (@cy _ _ _ _ _ _ _ _ yD rfl (@cC _ _ _ _ (@aI _ _ _ _ (@aa _ _ _ _ _ (pv 3) (@aa _ _ _ _ _ (ao cLSpoilt hr (by decide) rfl (@aa _ _ _ _ _ (pv 5) (@aa _ _ _ _ _ (pv 1) (@aa _ _ _ _ _ (pv 3) af rfl) rfl) rfl)) (@aa _ _ _ _ _ (pv 3) af rfl) rfl) rfl))) (aD (i:=8) dw.nd rfl (Or.inl rfl))
    (@ah _ _ _ _ _ (@aH _ _ 9 _ _ _ _ dw.nd rfl (Or.inl rfl) (ao cLShows hr (by decide) rfl (@aa _ _ _ _ _ (pv 1) (@aa _ _ _ _ _ (pv 2) (@aa _ _ _ _ _ (@aI _ _ _ _ af) (@aa _ _ _ _ _ (bb cN rfl B.b_list iD (@aa _ _ _ _ _ (pv 6) af rfl)) (@aa _ _ _ _ _ (pv 8) af rfl) rfl) rfl) rfl) rfl)) rfl (by first | exact .inl rfl | exact .inr rfl | assumption))
    (@ah _ _ _ _ _ (@aH _ _ 10 _ _ _ _ dw.nd rfl (Or.inl rfl) (ao cLTupled hr (by decide) rfl (@aa _ _ _ _ _ (pv 8) af rfl)) rfl (by first | exact .inl rfl | exact .inr rfl | assumption))
    (@ah _ _ _ _ _ (@aO _ _ _ _ _ _ _ _ (PW.pt (ck (aj (kU hr) (ao cLTold hr (by decide) rfl (@aa _ _ _ _ _ (ao cOneShows hr (by decide) rfl (@aa _ _ _ _ _ (pv 1) (@aa _ _ _ _ _ (pv 2) (@aa _ _ _ _ _ (pv 6) (@aa _ _ _ _ _ (pv 8) af rfl) rfl) rfl) rfl)) af rfl)) (pv 9) (ay _)) (cx (aj (t6 hr) (ao cLTupled hr (by decide) rfl (@aa _ _ _ _ _ (pv 8) af rfl)) (pv 10) (ay _))))) gJ ax)
    (@ai _ _ _ (@aO _ _ _ _ _ _ _ _ (aj (kU hr) (ao cLTold hr (by decide) rfl (@aa _ _ _ _ _ (ao cOneShows hr (by decide) rfl (@aa _ _ _ _ _ (pv 1) (@aa _ _ _ _ _ (bb bZ rfl B.b_tuple de (@aa _ _ _ _ _ (pv 2) af rfl)) (@aa _ _ _ _ _ (pv 6) (@aa _ _ _ _ _ (pv 10) af rfl) rfl) rfl) rfl)) af rfl)) (pv 9) (ay _)) gJ ax))))) (λ_=>rfl))))))))) (λ_=>rfl))
  (@ai _ _ _ (@aq _ _ _ _ lJ))))),?_⟩
 refine ⟨_,rfl,a,ns,rfl,hS,d9.mpr ⟨ns.sum,12,rfl,by decide,by decide,λdl=>⟨(by show 1<=xf;decide),λp0 hp0 =>?_⟩⟩⟩
 refine gg.mpr ⟨p0,rfl,⟨[dl],rfl,ae⟩,λo r wa ta m ts ws tr H1 b1 eo W m4 ew lw it=>⟨o,_,rfl,SqT.of eo,rfl,_,_,rfl,_,_,rfl,_,_,rfl,rfl,?_⟩⟩
 have s1:aK H H1:=Bu.fresh hp0 b1
 refine ⟨_,rfl,_,rfl,(by show 0<=xf;decide),λk1 hk1 =>?_⟩
 have t1:=ab hk1 (.tup [])
 refine ⟨_,rfl,dh.mpr ⟨r,wa,k1,ta,m,ts,ws,[],true,tr,rfl,W.same t1,by lia,.inl (t1 _ _ ew),lw,ae,by decide,(it.mono (by decide)).same t1,λv H2 s2 hv =>?_⟩⟩
 refine dk.mpr ⟨v,_,rfl,hv,λu H3 s3 hu =>?_⟩
 have t3:=t1.trans (s2.trans s3)
 refine ⟨_,rfl,_,rfl,(by show 0<=xf;decide),λq1 hq1=>⟨(by show 0<=xf;decide),λq2 hq2 =>?_⟩⟩
 have u1:=ab hq1 (.lst [])
 have u2:=ab hq2 (.lst [])
 have t4:=t3.trans (u1.trans u2)
 refine ⟨_,rfl,dO.mpr ⟨r,wa,q1,q2,ta,m,ts,ws,[],[],tr,rfl,W.same t4,by lia,t4 _ _ ew,lw,u2 _ _ ae,(λv h=>nomatch h),by decide,ae,by decide,(it.mono (by decide)).same t4,λv2 H5 s5 hv2 =>?_⟩⟩
 obtain ⟨f1,rfl,ef1⟩:=hu
 obtain ⟨f2,rfl,ef2⟩:=hv2
 have ef1:=s5 _ _ (u2 _ _ (u1 _ _ ef1))
 refine ⟨f1,f2,_,_,rfl,rfl,SqL.of ef1,SqL.of ef2,lE _,_,rfl,aT ?_⟩
 have s6:aK H H5:=s1.trans (t4.trans s5)
 clear ef1 ef2 t4 u1 u2 t3 t1 hk1 hq1 hq2 s2 s3 s5 W it eo ew b1
 refine ⟨_,rfl,8,rfl,a,_,rfl,s6.seq hS,λl0 hl0 =>?_⟩
 obtain ⟨ms,em,lt,_⟩:=qo ns none (some 8)
 rw[em]
 have g0:=ab hl0 (.lst (ms.map V.int))
 refine ⟨(by show 1<=xf;decide),λl1 hl1=>⟨l0,l1,_,_,rfl,rfl,SqL.of ((ab hl1 _) _ _ ae),SqL.of ae,aR (by rw[wW];show _+1<=_;lia),λl2 hl2 =>?_⟩⟩
 have g1:=g0.trans ((ab hl1 (.lst [.int 0])).trans (ab hl2 (.lst (ms.map V.int++[.int 0]))))
 have el2:upd (upd (upd H5 l0 (.lst (ms.map V.int))) l1 (.lst [.int 0])) l2 (.lst (ms.map V.int++[.int 0])) l2=some (.lst ((ms++[0]).map V.int)):=by rw[ae,xq];rfl
 generalize upd (upd (upd H5 l0 (.lst (ms.map V.int))) l1 (.lst [.int 0])) l2 (.lst (ms.map V.int++[.int 0]))=H6 at g1 el2
 let W0:Nat->St->Hp->Prop:=λi σ H'=>(∃c1 c2 c3 c4 c5 c6 c7 c8 c9 c10,σ=[some (.ref a),c1,c2,c3,c4,c5,c6,c7,c8,c9,c10])/\aK H6 H'
 refine ⟨l2,rfl,⟨_,SqL.of el2⟩,dF (xs:=(ms++[0]).map V.int) W0 ⟨⟨_,_,_,_,_,_,_,_,_,_,rfl⟩,aK.refl _⟩ (λi σ H' _ h=>SqL.of (h.2 _ _ el2)) ?_ ?_⟩
 case refine_2 =>
  rintro σ H7 ⟨⟨c1,c2,c3,c4,c5,c6,c7,c8,c9,c10,rfl⟩,s7⟩
  exact q _
 rintro i x σ H7 hx ⟨⟨c1,c2,c3,c4,c5,c6,c7,c8,c9,c10,rfl⟩,s7⟩
 obtain ⟨c,ec,rfl⟩:=iw hx
 refine ⟨_,rfl,d9.mpr ⟨c,90,rfl,by decide,by decide,λdl=>⟨(by show 1<=xf;decide),λp hp =>?_⟩⟩⟩
 have pt:Pt 1 (upd H7 p (.lst [.int dl])) p:=⟨[dl],rfl,ae⟩
 refine ⟨_,rfl,hX.mpr ⟨p,5,rfl,pt,by decide,λr m ts H8 b8 W m5 =>?_⟩⟩
 have s8:=Bu.fresh hp b8
 have hw8:∃t,H8 r=some (.tup [.int m,.ref t]):=W.at'.imp λ_ h=>h.1
 obtain ⟨tt,er8⟩:=hw8
 refine ⟨_,rfl,_,rfl,r,_,0,_,rfl,rfl,SqT.of er8,rfl,dA.mpr ⟨p,m,rfl,b8.pot,by lia,λwl ws H9 b9 hwl nwl ew lw =>?_⟩⟩
 refine ⟨_,rfl,_,rfl,r,_,0,_,rfl,rfl,SqT.of (b9.tup b8.pot er8),rfl,fh.mpr ⟨p,m,rfl,b9.pot,by lia,λkk Kp H10 b10 ek ak lk =>?_⟩⟩
 have W10:=(W.bu b9 b8.pot).bu b10 b9.pot
 have ew10:=b10.st _ _ nwl ew
 refine ⟨_,rfl,fj.mpr ⟨r,m,ts,rfl,W10,m5,λrl us H11 s11 hrl er tu pu lu =>?_⟩⟩
 have b11:=((b8.trans b9).trans b10).same s11
 have W11:=W10.same s11
 have ew11:=s11 _ _ ew10
 have ek11:=s11 _ _ ek
 refine ⟨_,rfl,_,rfl,_,rfl,_,rfl,(by show 0<=xf;decide),λt0 ht0 =>?_⟩
 have v1:=ab ht0 (.lst [])
 refine ⟨_,rfl,kk,_,rfl,.inr (SqT.of (v1 _ _ ek11)),λk2 hk2 =>?_⟩
 have v2:=v1.trans (ab hk2 (.lst (Kp.map V.int)))
 have et12:=(ab hk2 (.lst (Kp.map V.int))) _ _ (ae (H:=H11) (a:=t0) (o :=.lst []))
 have ek12:upd (upd H11 t0 (.lst [])) k2 (.lst (Kp.map V.int)) k2=some (.lst (Kp.map V.int)):=ae
 have nt0:=bz b11.pot ht0
 have nk2:=bz (b11.pot.same v1) hk2
 generalize upd (upd H11 t0 (.lst [])) k2 (.lst (Kp.map V.int))=H12 at v2 et12 ek12
 have b12:=b11.same v2
 refine ⟨_,rfl,az.mpr ⟨p,4,rfl,b12.pot,aF (by decide) (by decide),λd H13 d0 d1 b13 =>?_⟩⟩
 obtain ⟨rm,rfl⟩:∃rm:Nat,d=rm:=⟨d.toNat,by lia⟩
 have nrl:=jw b11.pot er
 refine cj.mpr ⟨p,r,wl,rl,t0,k2,m,rm,ts,ws,[],Kp,us,rfl,b13.pot,(W11.same v2).bu b13 b12.pot,by lia,b13.st _ _ nwl (v2 _ _ ew11),nwl,lw,b13.st _ _ nrl (v2 _ _ er),(tu.same v2).bu b13 b12.pot,pu,lu,b13.st _ _ nt0 et12,nt0,by decide,b13.st _ _ nk2 ek12,nk2,by lia,by lia,λta tr H14 b14 it ne =>?_⟩
 have b1114:=(Bu.refl b11.pot).same v2 |>.trans b13 |>.trans b14
 have W14:=W11.bu b1114 b11.pot
 refine ⟨_,rfl,_,rfl,_,rfl,_,rfl,cJ.mpr ⟨p,r,ta,m,ts,tr,rfl,b14.pot,W14,by lia,it.mono (by lia),ne,λta2 tr2 H15 b15 it2 =>?_⟩⟩
 have b1115:=b1114.trans b15
 have W15:=W11.bu b1115 b11.pot
 have ew15:=b1115.st _ _ nwl ew11
 have ek15:=b1115.tup b11.pot ek11
 have it15:=(it.mono (by lia:rm<=4)).bu b15 b14.pot
 refine ⟨_,rfl,(by show 3<=xf;decide),λhl hhl =>?_⟩
 have v6:=ab hhl (.lst [.ref ta,.ref ta2,.ref ta])
 have e16:upd H15 hl (.lst [.ref ta,.ref ta2,.ref ta]) hl=some (.lst [.ref ta,.ref ta2,.ref ta]):=ae
 have s16:aK H6 (upd H15 hl (.lst [.ref ta,.ref ta2,.ref ta])):=s7.trans (Bu.fresh hp ((b11.trans b1115).same v6))
 have W16:=W15.same v6
 have ew16:=v6 _ _ ew15
 have ek16:=v6 _ _ ek15
 have tr16:∀x∈[V.ref ta,V.ref ta2,V.ref ta],∃b t,x = .ref b/\bJ true (upd H15 hl (.lst [.ref ta,.ref ta2,.ref ta])) 4 b t:=λx hx=>by
  rcases xK.mp hx with h | h
  ·exact ⟨ta,tr,h,it15.same v6⟩
  rcases xK.mp h with h | h
  ·exact ⟨ta2,tr2,h,it2.same v6⟩
  ·exact ⟨ta,tr,xo.mp h,it15.same v6⟩
 generalize upd H15 hl (.lst [.ref ta,.ref ta2,.ref ta])=H16 at v6 e16 s16 W16 ew16 ek16 tr16
 let W1:Nat->St->Hp->Prop:=λi σ H'=>(∃c8 c9 c10,σ=[some (.ref a),some (.ref r),some (.ref wl),some (.ref ta),some (.int c),some (.ref p),some (.ref kk),some (.ref rl),c8,c9,c10])/\aK H16 H'
 refine ⟨hl,rfl,⟨_,SqL.of e16⟩,dF (xs:=[V.ref ta,V.ref ta2,V.ref ta]) W1 ⟨⟨_,_,_,rfl⟩,aK.refl _⟩ (λi σ H' _ h=>SqL.of (h.2 _ _ e16)) ?_ ?_⟩
 case refine_2 =>
  rintro σ H17 ⟨⟨c8',c9',c10',rfl⟩,s17⟩
  exact ⟨⟨_,_,_,_,_,_,_,_,_,_,rfl⟩,s16.trans s17⟩
 rintro j x σ H17 hx ⟨⟨c8',c9',c10',rfl⟩,s17⟩
 obtain ⟨hb,t,rfl,it17⟩:=tr16 x (xE hx)
 have it17:=it17.same s17
 have W17:=W16.same s17
 have ew17:=s17 _ _ ew16
 have ek17:=s17 _ _ ek16
 refine ⟨_,rfl,_,rfl,(by show 0<=xf;decide),λt1 ht1 =>?_⟩
 have w1:=ab ht1 (.lst [])
 refine ⟨_,rfl,kk,_,rfl,.inr (SqT.of (w1 _ _ ek17)),λk3 hk3 =>?_⟩
 have w2:=w1.trans (ab hk3 (.lst (Kp.map V.int)))
 have et18:=(ab hk3 (.lst (Kp.map V.int))) _ _ (ae (H:=H17) (a:=t1) (o :=.lst []))
 refine ⟨_,rfl,dO.mpr ⟨r,wl,t1,k3,hb,m,ts,ws,[],Kp,t,rfl,W17.same w2,by lia,w2 _ _ ew17,lw,et18,(λv h=>nomatch h),by decide,ae,by lia,(it17.mono (by decide)).same w2,λv2 H19 s19 hv2 =>?_⟩⟩
 obtain ⟨f2,rfl,ef2⟩:=hv2
 have w3:=w2.trans s19
 refine ⟨_,rfl,cU.mpr ⟨hb,t,rfl,it17.same w3,λcb H20 s20 ic =>?_⟩⟩
 have w4:=w3.trans s20
 have ef20:=s20 _ _ ef2
 refine ⟨_,rfl,_,rfl,_,rfl,_,rfl,dh.mpr ⟨r,wl,kk,hb,m,ts,ws,Kp,true,t,rfl,W17.same w4,by lia,.inl (w4 _ _ ew17),lw,w4 _ _ ek17,by lia,(it17.mono (by decide)).same w4,λv3 H21 s21 hv3 =>?_⟩⟩
 refine dk.mpr ⟨v3,_,rfl,hv3,λu3 H22 s22 hu3 =>?_⟩
 obtain ⟨f3,rfl,ef3⟩:=hu3
 have w5:=s21.trans s22
 refine ⟨_,rfl,f3,f2,_,_,rfl,rfl,SqL.of ef3,SqL.of (w5 _ _ ef20),lE _,_,rfl,aT ?_⟩
 refine ⟨_,rfl,cU.mpr ⟨hb,t,rfl,it17.same (w4.trans w5),λcb2 H23 s23 ic2 =>?_⟩⟩
 have ic23:=(ic.same w5).same s23
 obtain ⟨xs,ys,ex,ey,pr⟩:=vT (K:=K) 13 ic2 ic23
 refine ⟨_,rfl,cb2,cb,xs,ys,rfl,rfl,SqT.of ex,SqT.of ey,pr,_,rfl,aT ?_⟩
 have w6:=w4.trans (w5.trans s23)
 have ef23:=s23 _ _ (w5 _ _ ef20)
 refine ⟨_,rfl,_,rfl,wl,_,rfl,.inl ⟨SqL.of (w6 _ _ ew17),λwt hwt =>?_⟩⟩
 have w7:=w6.trans (ab hwt (.tup (ws.map V.int)))
 refine ⟨_,rfl,_,rfl,dh.mpr ⟨r,wt,kk,cb,m,ts,ws,Kp,false,t,rfl,W17.same w7,by lia,.inr ae,lw,w7 _ _ ek17,by lia,(ic23.mono (by decide)).same (ab hwt _),λv4 H24 s24 hv4 =>?_⟩⟩
 refine dk.mpr ⟨v4,_,rfl,hv4,λu4 H25 s25 hu4 =>?_⟩
 obtain ⟨f4,rfl,ef4⟩:=hu4
 have w8:=(ab hwt (.tup (ws.map V.int))).trans (s24.trans s25)
 exact ⟨_,rfl,f4,f2,_,_,rfl,rfl,SqL.of ef4,SqL.of (w8 _ _ ef23),lE _,_,rfl,aT ⟨⟨_,_,_,rfl⟩,s17.trans (w6.trans w8)⟩⟩
end
open PySem L2
theorem all_mk {l:PySem.W.OpenLaw}{w:xQ}{K:wY}{h:Heap}{mg:Str->Option xb}{fa:Addr}(X:K.In h)(G:h.Ns xZ mg)(hfa:mg "law" = some (.ref fa))
  (h1:bS K "is_open" kW) (h2:bS K "kept_shows" fS) (h3:bS K "is_share" jf) (h4:bS K "shares_show" fe) (h5:bS K "lesser_shown" dX) (h6:bS K "case_shows" fT) (h7:bS K "round_arrows" dY) (h8:bS K "is_round" jg) (h9:bS K "one_shows" gZ) (h10:bS K "_law_deal" nO) (h11:bS K "_law_take" nP) (h12:bS K "_law_whole" kX) (h13:bS K "_law_web" oT) (h14:bS K "_law_weights" g7) (h15:bS K "_law_kept" nQ) (h16:bS K "_law_is_ring" jh) (h17:bS K "_law_rings" kY) (h18:bS K "_law_leaf" nR) (h19:bS K "_law_shows" kZ) (h20:bS K "_law_rows" nU) (h21:bS K "_law_good" nV) (h22:bS K "_law_other" k5) (h23:bS K "_law_spoilt_rows" dZ) (h24:bS K "_law_spoilt" ji) (h25:bS K "_law_tupled" jj) (h26:bS K "_law_told" nW) (h27:bS K "_law_deep" nX) (h28:bS K "law" qy)
  (y_all:yx K xZ "all" = some none) (y_any:yx K xZ "any" = some none) (y_bool:yx K xZ "bool" = some none) (y_divmod:yx K xZ "divmod" = some none) (y_enumerate:yx K xZ "enumerate" = some none) (y_int:yx K xZ "int" = some none) (y_isinstance:yx K xZ "isinstance" = some none) (y_len:yx K xZ "len" = some none) (y_list:yx K xZ "list" = some none) (y_max:yx K xZ "max" = some none) (y_min:yx K xZ "min" = some none) (y_range:yx K xZ "range" = some none) (y_reversed:yx K xZ "reversed" = some none) (y_set:yx K xZ "set" = some none) (y_sorted:yx K xZ "sorted" = some none) (y_sum:yx K xZ "sum" = some none) (y_tuple:yx K xZ "tuple" = some none)
  : ∃fd:yd,(∀(s:xh) (v:xb),BindsTo s fd ⟨[v],[]⟩ [("script",v)])/\∀base:Heap,K.In base->base.Ns xZ mg->bG l.prog w K mg base CX0 53 fa fd ["script"] (mP K):=by
 obtain ⟨fl,od,an,sl,oc,kV,dc,pm,cd,ct,al,ll,cl,kl⟩:=h28
 have e:=hfa.symm.trans (Cg X G al)
 cases e
 have F28:=m7 ll cl kl
 have z_all:=x8 X G y_all
 have z_any:=x8 X G y_any
 have z_bool:=x8 X G y_bool
 have z_divmod:=x8 X G y_divmod
 have z_enumerate:=x8 X G y_enumerate
 have z_int:=x8 X G y_int
 have z_isinstance:=x8 X G y_isinstance
 have z_len:=x8 X G y_len
 have z_list:=x8 X G y_list
 have z_max:=x8 X G y_max
 have z_min:=x8 X G y_min
 have z_range:=x8 X G y_range
 have z_reversed:=x8 X G y_reversed
 have z_set:=x8 X G y_set
 have z_sorted:=x8 X G y_sorted
 have z_sum:=x8 X G y_sum
 have z_tuple:=x8 X G y_tuple
 refine ⟨PySem.W.fnOf "law" "law" (cO qy) (cD qy) (aB qy) .none kV dc pm an cd ct,λs v =>.of_eq rfl,λbase kb nb =>?_⟩
 have B:Blt mg:=⟨z_all,z_any,z_bool,z_divmod,z_enumerate,z_int,z_isinstance,z_len,z_list,z_max,z_min,z_range,z_reversed,z_set,z_sorted,z_sum,z_tuple⟩
 have cLTake:=h11.cal l.prog w base X G (λF=>uo F B) λ_ _ _ _ _ _ us hl=>match us,hl with | [_,_],_=>rfl
 have cLDeep:=h27.cal l.prog w base X G (λF=>uC F B cLTake) λ_ _ _ _ _ _ us hl=>match us,hl with | [_],_=>rfl
 have cLWhole:=h12.cal l.prog w base X G (λF=>sF F B) λ_ _ _ _ _ _ us hl=>match us,hl with | [_],_=>rfl
 have cLTold:=h26.cal l.prog w base X G (λF=>uz F B cLWhole) λ_ _ _ _ _ _ us hl=>match us,hl with | [_],_=>rfl
 have cLIsRing:=h16.cal l.prog w base X G (λF=>qH F B) λ_ _ _ _ _ _ us hl=>match us,hl with | [_,_],_=>rfl
 have cLLeaf:=h18.cal l.prog w base X G (λF=>uw F B cLIsRing) λ_ _ _ _ _ _ us hl=>match us,hl with | [_,_,_,_,_],_=>rfl
 have cLShows:=h19.jb l.prog w base X G 3 (λ_ _ _ _=>ux) (λn c=>λF=>sC F B n c cLLeaf cLIsRing) (λ_ _ _ _ _ _ us hl=>match us,hl with | [_,_,_,_,_],_=>rfl) 46
 have cLWeb:=h13.cal l.prog w base X G (λF=>vQ F B cLTake) λ_ _ _ _ _ _ us hl=>match us,hl with | [_,_],_=>rfl
 have cLWeights:=h14.cal l.prog w base X G (λF=>n6 F B cLTake) λ_ _ _ _ _ _ us hl=>match us,hl with | [_,_],_=>rfl
 have cLKept:=h15.cal l.prog w base X G (λF=>uu F B cLTake) λ_ _ _ _ _ _ us hl=>match us,hl with | [_,_],_=>rfl
 have cLRings:=h17.cal l.prog w base X G (λF=>su F B cLIsRing) λ_ _ _ _ _ _ us hl=>match us,hl with | [_],_=>rfl
 have cLRows:=h20.cal l.prog w base X G (λF=>uA F B cLTake) λ_ _ _ _ _ _ us hl=>match us,hl with | [_,_,_,_,_],_=>rfl
 have cLGood:=h21.jb l.prog w base X G 2 (λ_ _ _ _=>qL) (λn c=>λF=>uB F B n c cLTake cLRows) (λ_ _ _ _ _ _ us hl=>match us,hl with | [_,_,_,_,_,_,_],_=>rfl) 5
 have cLDeal:=h10.cal l.prog w base X G (λF=>uj F B) λ_ _ _ _ _ _ us hl=>match us,hl with | [_,_],_=>rfl
 have cLesserShown:=h5.cal l.prog w base X G (λF=>jN F B) λ_ _ _ _ _ _ us hl=>match us,hl with | [_,_],_=>rfl
 have cKeptShows:=h2.cal l.prog w base X G (λF=>mH F B) λ_ _ _ _ _ _ us hl=>match us,hl with | [_,_,_,_],_=>rfl
 have cIsShare:=h3.cal l.prog w base X G (λF=>qE F B) λ_ _ _ _ _ _ us hl=>match us,hl with | [_,_,_,_,_,_],_=>rfl
 have cSharesShow:=h4.cal l.prog w base X G (λF=>lh F B cIsShare) λ_ _ _ _ _ _ us hl=>match us,hl with | [_,_,_,_,_,_],_=>rfl
 have cIsOpen:=h1.cal l.prog w base X G (λF=>si F B) λ_ _ _ _ _ _ us hl=>match us,hl with | [_,_,_,_],_=>rfl
 have cCaseShows:=h6.jb l.prog w base X G 5 (λ_ _ _ _=>qF) (λn c=>λF=>mI F B n c cLesserShown cKeptShows cSharesShow cIsOpen) (λ_ _ _ _ _ _ us hl=>match us,hl with | [_,_,_,_,_,_,_],_=>rfl) 46
 have cRoundArrows:=h7.cal l.prog w base X G (λF=>jK F B) λ_ _ _ _ _ _ us hl=>match us,hl with | [_],_=>rfl
 have cIsRound:=h8.cal l.prog w base X G (λF=>qB F B cRoundArrows) λ_ _ _ _ _ _ us hl=>match us,hl with | [_,_],_=>rfl
 have cOneShows:=h9.cal l.prog w base X G (λF=>n5 F B cCaseShows cIsRound) λ_ _ _ _ _ _ us hl=>match us,hl with | [_,_,_,_],_=>rfl
 have cLOther:=h22.cal l.prog w base X G (λF=>sH F B cLTake) λ_ _ _ _ _ _ us hl=>match us,hl with | [_,_],_=>rfl
 have cLSpoiltRows:=h23.cal l.prog w base X G (λF=>jO F B cLTake cLOther) λ_ _ _ _ _ _ us hl=>match us,hl with | [_,_],_=>rfl
 have cLSpoilt:=h24.jb l.prog w base X G 3 (λ_ _ _ _=>oh) (λn c=>λF=>qM F B n c cLTake cLOther cLSpoiltRows) (λ_ _ _ _ _ _ us hl=>match us,hl with | [_,_,_],_=>rfl) 5
 have cLTupled:=h25.jb l.prog w base X G 0 (λ_ _ _ _=>sJ) (λn c=>λF=>qO F B n c) (λ_ _ _ _ _ _ us hl=>match us,hl with | [_],_=>rfl) 5
 exact wV F28 B cLDeep cLTold cLShows cLWeb cLWeights cLKept cLRings cLGood cLDeal cOneShows cLTake cLSpoilt cLTupled
theorem walk {l:PySem.W.OpenLaw}{q:xA}{loose:List Str}{XP:(Str->Option xb)->Heap->Prop}{YP:xQ->Heap->Prop}{d:DefRec}{K:Params->wY}(hn:l.most=some 63)(hdf:d.params.defaults=[])
  (hY:∀(w:xQ) (h:Heap),YP w h->(K w.params).In h)
  (F:∀(w:xQ) (mg:Str->Option xb) (fa:Addr) (h:Heap),(K w.params).In h->h.Ns xZ mg->mg d.name=some (.ref fa) →
   ∃fd:yd,(∀(s:xh) (u:xb),BindsTo s fd ⟨[u],[]⟩ [("script",u)])/\∀base:Heap,(K w.params).In base->base.Ns xZ mg->bG l.prog w (K w.params) mg base CX0 53 fa fd ["script"] (mP (K w.params))) :
  PySem.W.WalkO q loose XP YP l.row.toRowW d [] (λf vs=>PySem.call f vs) :=
 L2.tq (n:=63) (k:=53) (x := "script") (CX:=λ_=>CX0) (sp:=λw=>mP (K w.params)) hn (by decide) hdf ⟨rfl,by decide,by decide⟩ hY F (λ_ _ a ns hl _ hS=>⟨a,ns,rfl,hS,hl,λ_=>rfl⟩) λ_ _ _ _ _ z=>z
end K61
def PySem.W.Fast.tw1255262425661588258:Nat:=0
def PySem.W.Fast.tw7237163376614903251:Nat:=0
def PySem.W.Fast.tw5475038359693486602:Nat:=0
def PySem.W.Fast.tw2757111091943845928:Nat:=0
def PySem.W.Fast.tw9703075205442326739:Nat:=0
def PySem.W.Fast.tw17163803093670153239:Nat:=0
def PySem.W.Fast.tw2982872093361976823:Nat:=0
def PySem.W.Fast.tw7554150241302440552:Nat:=0
def PySem.W.Fast.tw11462214216622149510:Nat:=0
def PySem.W.Fast.tw3820235210036321784:Nat:=0
def PySem.W.Fast.tw9335069407629835373:Nat:=0
def PySem.W.Fast.tw1983686099598423212:Nat:=0
def PySem.W.Fast.tw536404445253673589:Nat:=0
def PySem.W.Fast.tw9507509674726946800:Nat:=0
def PySem.W.Fast.tw4945045454966521115:Nat:=0
def PySem.W.Fast.tw12221347499690487235:Nat:=0
def PySem.W.Fast.tw7224678470405097895:Nat:=0
def PySem.W.Fast.tw977649274805018376:Nat:=0
def PySem.W.Fast.tw2928870174744746576:Nat:=0
def PySem.W.Fast.tw6967322451908295539:Nat:=0
def PySem.W.Fast.tw18089720215302505600:Nat:=0
def PySem.W.Fast.tw15476758874597701904:Nat:=0
def PySem.W.Fast.tw13289994510188997705:Nat:=0
def PySem.W.Fast.tw1822968751499468908:Nat:=0
def PySem.W.Fast.tw6559165906165521701:Nat:=0
def PySem.W.Fast.tw10476698681504637236:Nat:=0
def PySem.W.Fast.tw12281647896672359316:Nat:=0
def PySem.W.Fast.tw2078203880645372872:Nat:=0
def PySem.W.Fast.tw7174135264835448107:Nat:=0
def PySem.W.Fast.tw310073594260886496:Nat:=0
def PySem.W.Fast.tw16472949165766361414:Nat:=0
def PySem.W.Fast.tw16396875234846006418:Nat:=0
def PySem.W.Fast.tw1018379352521448485:Nat:=0
def PySem.W.Fast.tw11428921588571537411:Nat:=0
def PySem.W.Fast.tw3321889736759081985:Nat:=0
def PySem.W.Fast.tw9285493022113038181:Nat:=0
def PySem.W.Fast.tw12204304509718318812:Nat:=0
def PySem.W.Fast.tw1849443389839239373:Nat:=0
def PySem.W.Fast.tw2394171709372493048:Nat:=0
def PySem.W.Fast.tw5591092322109641864:Nat:=0
def PySem.W.Fast.tw595177772880147483:Nat:=0
def PySem.W.Fast.tw10785009057141996435:Nat:=0
def PySem.W.Fast.tw8027409990066304697:Nat:=0
def PySem.W.Fast.tw12409954161891789835:Nat:=0
def PySem.W.Fast.tw14628147677878425924:Nat:=0
def PySem.W.Fast.tw11538043181465106323:Nat:=0
def PySem.W.Fast.tw5217089726347529907:Nat:=0
def PySem.W.Fast.tw10657137822487901940:Nat:=0
def PySem.W.Fast.tw16358245867863074865:Nat:=0
def PySem.W.Fast.tw9588962665478345311:Nat:=0
def PySem.W.Fast.tw8203483869267057073:Nat:=0
def PySem.W.Fast.tw15807182217916537783:Nat:=0
def PySem.W.Fast.tw13543697547765515724:Nat:=0
def PySem.W.Fast.tw17324900594597449321:Nat:=0
def PySem.W.Fast.tw4725017472053162677:Nat:=0
def PySem.W.Fast.tw5231230057821896816:Nat:=0
def PySem.W.Fast.tw5899540365521663447:Nat:=0
def PySem.W.Fast.tw10937787826559802944:Nat:=0
def PySem.W.Fast.tw4971018176690372395:Nat:=0
def PySem.W.Fast.tw8555599935949350494:Nat:=0
def PySem.W.Fast.tw2688818267487855046:Nat:=0
def PySem.W.Fast.tw13137907396476997911:Nat:=0
def PySem.W.Fast.tw12530122510348714063:Nat:=0
def PySem.W.Fast.tw10563496748065951900:Nat:=0
def PySem.W.Fast.tw17562121860064312166:Nat:=0
def PySem.W.Fast.tw2965905054439255991:Nat:=0
def PySem.W.Fast.tw12366574070864163081:Nat:=0
def PySem.W.Fast.tw1425942481606468830:Nat:=0
def PySem.W.Fast.tw4084683008622175326:Nat:=0
def PySem.W.Fast.tw16191650307120579338:Nat:=0
def PySem.W.Fast.tw2966369328603313158:Nat:=0
def PySem.W.Fast.tw9320766199101514926:Nat:=0
def PySem.W.Fast.tw12369683192637169421:Nat:=0
def PySem.W.Fast.tw2993201895654349216:Nat:=0
def PySem.W.Fast.tw830218458358432551:Nat:=0
def PySem.W.Fast.tw14994843373520737577:Nat:=0
def PySem.W.Fast.tw10562695870154010180:Nat:=0
def PySem.W.Fast.tw1705963596803230941:Nat:=0
def PySem.W.Fast.tw135036365491532158:Nat:=0
def PySem.W.Fast.tw2277028617754477397:Nat:=0
def PySem.W.Fast.tw17936842983184366973:Nat:=0
def PySem.W.Fast.tw6230181744911079900:Nat:=0
def PySem.W.Fast.tw12339831190966880601:Nat:=0
def PySem.W.Fast.tw2064346072221169283:Nat:=0
def PySem.W.Fast.tw3576227542191400814:Nat:=0
def PySem.W.Fast.tw9955452826644328802:Nat:=0
def PySem.W.Fast.tw15239631350795506151:Nat:=0
def PySem.W.Fast.tw1275093439101860143:Nat:=0
def PySem.W.Fast.tw5209021473824999238:Nat:=0
def PySem.W.Fast.tw280900726088780320:Nat:=0
def PySem.W.Fast.tw5677899154947079429:Nat:=0
def PySem.W.Fast.tw16197103800466273240:Nat:=0
def PySem.W.Fast.tw5110981923862734274:Nat:=0
def PySem.W.Fast.tw7573882674809847957:Nat:=0
def PySem.W.Fast.tw16443098369770422268:Nat:=0
def PySem.W.Fast.tw15436703399799627534:Nat:=0
def PySem.W.Fast.tw2055252841969989313:Nat:=0
def PySem.W.Fast.tw6027390367471471277:Nat:=0
def PySem.W.Fast.tw2421215867376378725:Nat:=0
def PySem.W.Fast.tw14312415756215798813:Nat:=0
def PySem.W.Fast.tw3130337883747079916:Nat:=0
def PySem.W.Fast.tw5491325737666355834:Nat:=0
def PySem.W.Fast.tw8341220415245072123:Nat:=0
def PySem.W.Fast.tw4806179850880196320:Nat:=0
def PySem.W.Fast.tw8002141945747713759:Nat:=0
def PySem.W.Fast.tw850794857215325613:Nat:=0
open PySem PySem.W PyProof.Rows
set_option maxRecDepth 100000 in
set_option maxHeartbeats 0 in
theorem PySem.Challenge.cw_ringfell_k61_one_way_trees_judged_holds : PySem.Challenge.rw_ringfell_k61_one_way_trees_judged.Holds := by
 w_on;o_law;k_head;(case hw=>w_witness2)
 k_fill
 refine K61.walk (l:=PySem.Challenge.rw_ringfell_k61_one_way_trees_judged) rfl rfl (λw h Y=>PySem.W.kIn_of Y) ?F
 case F =>
  intro w mg fa h KX G hmg
  refine' K61.all_mk KX G hmg ?_ ?_ ?_ ?_ ?_ ?_ ?_ ?_ ?_ ?_ ?_ ?_ ?_ ?_ ?_ ?_ ?_ ?_ ?_ ?_ ?_ ?_ ?_ ?_ ?_ ?_ ?_ ?_ ?_ ?_ ?_ ?_ ?_ ?_ ?_ ?_ ?_ ?_ ?_ ?_ ?_ ?_ ?_ ?_ ?_
  any_goals k_is
  any_goals (refine' L2.bS.mk ?a ?l ?c ?k;(case a=>k_is);(case l=>k_is);(case c=>k_is);(case k=>k_is))
  all_goals kernel_rfl
